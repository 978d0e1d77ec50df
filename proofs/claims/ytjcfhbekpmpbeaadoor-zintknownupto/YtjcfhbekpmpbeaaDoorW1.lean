/- nat.trim, Norm, widen, sign and Cmp: what each answers and leaves of the world, for slices of at most 2^40 digits. -/
import Derived.Test.YtjcfhbekpmpbeaaDoorSl
import Derived.Deep.RegionWith
namespace Go.Proofs.YtjcfhbekpmpbeaaDoor
open Go.RowKit Dig

theorem ret_sl {oa : Option Addr} {cap m n : Nat} (h : m = n) : Ending.returned (.slice oa m cap) = .returned (.slice oa n cap) := by rw [h]
theorem OK_strip {ds : List Nat} (h : OK ds) : OK (strip ds) := by
  rw [strip_take]; exact h.take _

set_option maxHeartbeats 400000 in
set_option maxRecDepth 20000 in
theorem trim_any (oa : Option Addr) (cap : Nat) (ds : List Nat) (w : World) (hl : ds.length ≤ 1099511627776) (hc : ds.length ≤ cap) (hcell : Cells w oa ds) :
    Calls Tryd.prog 39 #[.slice oa ds.length cap] w fun e w' => e = .returned (.slice oa (strip ds).length cap) ∧ w = w' := by
  unfold Cells at hcell
  go_enter Tryd.func39, Tryd.ntmps39
  go_wp2
  go_loop [3] (fun n => ∃ k : Nat, k ≤ ds.length ∧ n = .int .i64 k ∧ ∀ i, k ≤ i → ds[i]?.getD 0 = 0) (fun n => (intOf n).toNat)
  case atStart => exact ⟨ds.length, Nat.le_refl _, rfl, fun i hi => by simp [List.getElem?_eq_none hi]⟩
  case round =>
    obtain ⟨k, hk, rfl, hz⟩ := hrel
    by_cases hk0 : 0 < k
    · obtain ⟨j, rfl⟩ : ∃ j, k = j + 1 := ⟨k - 1, by omega⟩
      have hne : ds ≠ [] := fun h => by rw [h] at hk; simp at hk
      obtain ⟨b, off, ho, hcell'⟩ := hcell.resolve_left hne
      subst ho
      have hcj := hcell' j (by omega)
      by_cases hd : ds[j]?.getD 0 = 0
      · rw [hd] at hcj
        go_wp2
        go_round
        case rel => exact ⟨j, by omega, by go_num, fun i hi => by rcases Nat.eq_or_lt_of_le hi with h | h; (· rw [← h]; exact hd); (· exact hz i h)⟩
        case measure => simp [intOf]
      · have hd' : ¬ ((ds[j]?.getD 0 : Nat) : Int) = 0 := by omega
        have hs : (strip ds).length = j + 1 := strip_length_of hk hz (.inr (by simpa using hd))
        go_wp2
        go_ret
        exact ⟨rfl, rfl⟩
    · obtain rfl : k = 0 := by omega
      have hs : (strip ds).length = 0 := strip_length_of hk hz (.inl rfl)
      go_wp2
      go_ret
      exact ⟨rfl, rfl⟩

theorem Cells.strip {w : World} {oa : Option Addr} {ds : List Nat} (h : Cells w oa ds) : Cells w oa (strip ds) := by
  rw [strip_take]; exact h.take _

set_option maxHeartbeats 400000 in
set_option maxRecDepth 20000 in
/-- Norm. -/
theorem norm_any (oa : Option Addr) (cap : Nat) (ds : List Nat) (w : World) (hl : ds.length ≤ 1099511627776) (hc : ds.length ≤ cap) (ok : OK ds) (hcell : Cells w oa ds) :
    Calls Tryd.prog 7 #[.slice oa ds.length cap] w fun e w' => e = .returned (.slice (some ⟨w.heap.size, 0, none⟩) (strip ds).length (strip ds).length) ∧ Row w' w.heap.size (strip ds) ∧ Below w.heap.size w w' := by
  have hsl := strip_length_le ds
  have hmk := mk_run (strip ds).length (by omega) w
  obtain ⟨w1, hcp, hrow, honly⟩ := cp_run (sCap := cap) (dCap := (strip ds).length) (ty := 3) (Row.new w (List.replicate (strip ds).length 0) (OK.replicate _ (by decide))) (OK_strip ok) (oa := oa) (off := 0) (hcell.strip.below ((Below.refl w.heap.size w).alloc (Nat.le_refl _) _) (Nat.le_refl _)) (Nat.le_refl _) (by simp)
  have hb : Below w.heap.size w w1 := ((Below.refl w.heap.size w).alloc (Nat.le_refl _) _).trans (honly.below (Nat.le_refl _))
  simp only [List.take_zero, List.nil_append, Nat.zero_add] at hrow
  rw [List.drop_eq_nil_of_le (by simp), List.append_nil] at hrow
  go_enter Tryd.func7, Tryd.ntmps7
  go_wp2_with (go_at_call 39; refine (trim_any _ _ _ _ hl hc hcell).mono ?_; rintro e w' ⟨rfl, rfl⟩)
  go_ret
  exact ⟨rfl, hrow, hb⟩

set_option maxHeartbeats 400000 in
set_option maxRecDepth 20000 in
theorem widen_any (oa : Option Addr) (cap : Nat) (ds : List Nat) (w : World) (hl : ds.length ≤ 1099511627776) (ok : OK ds) (hcell : Cells w oa ds) :
    Calls Tryd.prog 40 #[.slice oa ds.length cap] w fun e w' => e = .returned (.slice (some ⟨w.heap.size, 0, none⟩) (ds.length + 1) (ds.length + 1)) ∧ Row w' w.heap.size (ds ++ [0]) ∧ Below w.heap.size w w' := by
  have hmk := mk_run' ((ds.length : Int) + 1) (ds.length + 1) (by omega) (by omega) w
  obtain ⟨w1, hcp, hrow, honly⟩ := cp_run (sCap := cap) (dLen := ds.length + 1) (dCap := ds.length + 1) (ty := 3) (Row.new w (List.replicate (ds.length + 1) 0) (OK.replicate _ (by decide))) ok (oa := oa) (off := 0) (hcell.below ((Below.refl w.heap.size w).alloc (Nat.le_refl _) _) (Nat.le_refl _)) (by omega) (by simp)
  have hb : Below w.heap.size w w1 := ((Below.refl w.heap.size w).alloc (Nat.le_refl _) _).trans (honly.below (Nat.le_refl _))
  simp only [List.take_zero, List.nil_append, Nat.zero_add, List.drop_replicate, Nat.add_sub_cancel_left, List.replicate_one] at hrow
  go_enter Tryd.func40, Tryd.ntmps40
  go_wp2
  go_ret
  exact ⟨rfl, hrow, hb⟩

def sgI (c : Bool) : Int := if c then -1 else 1

theorem sign_any (c : Bool) (w : World) : Calls Tryd.prog 57 #[.bool c] w fun e w' => e = .returned (.int .i64 (sgI c)) ∧ w = w' := by
  cases c
  all_goals
    go_enter Tryd.func57, Tryd.ntmps57
    go_wp2
    go_ret
    exact ⟨rfl, rfl⟩

/-- What Cmp tells. -/
def cmpI (m n : Nat) : Int := if m < n then -1 else if m = n then 0 else 1

set_option maxHeartbeats 800000 in
set_option maxRecDepth 20000 in
theorem cmp_any (oa ob : Option Addr) (ca cb : Nat) (xs ys : List Nat) (w : World) (hxl : xs.length ≤ 1099511627776) (hyl : ys.length ≤ 1099511627776) (hxc : xs.length ≤ ca) (hyc : ys.length ≤ cb)
    (okx : OK xs) (oky : OK ys) (hx : Cells w oa xs) (hy : Cells w ob ys) :
    Calls Tryd.prog 37 #[.slice oa xs.length ca, .slice ob ys.length cb] w fun e w' => e = .returned (.int .i64 (cmpI (val xs) (val ys))) ∧ Below w.heap.size w w' := by
  have h1 := strip_length_le xs
  have h2 := strip_length_le ys
  have hx' := hx.strip
  have hy' := hy.strip
  have ex := dig_val okx
  have ey := dig_val oky
  generalize val xs = m at *
  generalize val ys = n at *
  have okX := OK_strip okx
  have HX := hide ex
  have HY := hide ey
  clear ex ey
  go_enter Tryd.func37, Tryd.ntmps37
  go_wp2_with fail
  refine (trim_any oa ca xs _ hxl hxc hx).mono ?_
  rintro e w' ⟨rfl, rfl⟩
  go_wp2_with fail
  refine (trim_any ob cb ys _ hyl hyc hy).mono ?_
  rintro e w' ⟨rfl, rfl⟩
  generalize strip xs = X at *
  generalize strip ys = Y at *
  by_cases hlen : X.length = Y.length
  · have hb : ((X.length : Int) == (Y.length : Int)) = true := by rw [beq_iff_eq]; omega
    have Hl := hide hlen
    clear hlen
    go_wp2_with fail
    go_loopw [5] (fun i wr => ∃ k : Nat, k ≤ X.length ∧ i = .int .i64 ((k : Int) - 1) ∧ X.drop k = Y.drop k ∧ Below w.heap.size w wr) (fun i _ => (intOf i + 1).toNat)
    case atStart => exact ⟨X.length, Nat.le_refl _, rfl, by rw [List.drop_eq_nil_of_le (Nat.le_refl _), List.drop_eq_nil_of_le (Nat.le_of_eq Hl.out.symm)], Below.refl _ _⟩
    case round =>
      obtain ⟨k, hk, rfl, hdr, hbel⟩ := hrel
      have Hdr := hide hdr
      clear hdr
      by_cases hk0 : 0 < k
      · obtain ⟨j, rfl⟩ : ∃ j, k = j + 1 := ⟨k - 1, by omega⟩
        have hl := Hl.out
        have b1 : j < X.length := by omega
        have b2 : j < Y.length := by omega
        obtain ⟨bx, ox, x, ho, gx, Hx⟩ := (hx'.below hbel (Nat.le_refl _)).get b1
        obtain ⟨by', oy, y, ho', gy, Hy⟩ := (hy'.below hbel (Nat.le_refl _)).get b2
        subst ho
        subst ho'
        rw [show ((j + 1 : Nat) : Int) - 1 = (j : Int) from by omega]
        clear hl
        by_cases hd : x = y
        · subst hd
          have hd' : ((x : Int) == (x : Int)) = true := by simp
          go_wp2_with fail
          go_region
          all_goals go_wp2_with fail
          go_roundw
          case rel => exact ⟨j, by omega, rfl, drop_eq_of_top Hl.out b1 Hdr.out (Hx.out.trans Hy.out.symm), hbel.drew⟩
          case measure => simp [intOf]
        · have hd' : ((x : Int) == (y : Int)) = false := by rw [beq_eq_false_iff_ne]; omega
          have HF : Hid (cmpI m n = sgI (decide (x < y))) := by
            have e1 := HX.out
            have e2 := HY.out
            have hl := Hl.out
            have hdr := Hdr.out
            have hx0 := Hx.out
            have hy0 := Hy.out
            have vx : val X = m := by rw [← e1, val_dig]
            have vy : val Y = n := by rw [← e2, val_dig]
            show cmpI m n = _
            unfold cmpI sgI
            by_cases hlt : x < y
            · have := val_lt_of_top okX hl b1 hdr (by omega)
              rw [vx, vy] at this
              simp [hlt, this]
            · have okY : OK Y := by rw [← e2]; exact OK_dig n
              have := val_lt_of_top okY hl.symm b2 hdr.symm (by omega)
              rw [vx, vy] at this
              simp only [hlt, decide_false, Bool.false_eq_true, if_false]
              rw [if_neg (by omega), if_neg (by omega)]
          go_wp2_with fail
          go_region
          all_goals go_wp2_with fail
          go_region_with (go_at_call 57; refine (sign_any _ _).mono ?_; rintro e w' ⟨rfl, rfl⟩)
          all_goals go_wp2
          all_goals go_ret
          all_goals exact ⟨congrArg (fun z : Int => Ending.returned (.int .i64 z)) HF.out.symm, hbel.drew.drew⟩
      · obtain rfl : k = 0 := by omega
        go_wp2
        go_ret
        have e1 := HX.out
        have e2 := HY.out
        have hdr := Hdr.out
        simp only [List.drop_zero] at hdr
        have : m = n := dig_inj (e1.trans (hdr.trans e2.symm))
        have hz : cmpI m n = 0 := by
          unfold cmpI
          rw [if_neg (by omega), if_pos this]
        exact ⟨congrArg (fun z : Int => Ending.returned (.int .i64 z)) hz.symm, hbel⟩
  · have hb : ((X.length : Int) == (Y.length : Int)) = false := by rw [beq_eq_false_iff_ne]; omega
    go_wp2_with fail
    refine (sign_any _ _).mono ?_
    rintro e w' ⟨rfl, rfl⟩
    go_wp2
    go_ret
    refine ⟨?_, Below.refl _ _⟩
    have e1 := HX.out
    have e2 := HY.out
    subst e1
    subst e2
    refine congrArg (fun z : Int => Ending.returned (.int .i64 z)) ?_
    unfold cmpI sgI
    by_cases hlt : (dig m).length < (dig n).length
    · have := lt_of_length_lt hlt
      simp [hlt, this]
    · have := lt_of_length_lt (show (dig n).length < (dig m).length by omega)
      simp only [hlt, decide_false, Bool.false_eq_true, if_false]
      rw [if_neg (by omega), if_neg (by omega)]
end Go.Proofs.YtjcfhbekpmpbeaaDoor
