/- nat.Add answers the canonical digits of the sum, in new memory, for slices of at most 10^12 digits. -/
import Derived.Test.YtjcfhbekpmpbeaaDoorW3
namespace Go.Proofs.YtjcfhbekpmpbeaaDoor
open Go.RowKit Dig

theorem Own.strip {w : World} {B b : Nat} {xs : List Nat} (hB : B ≤ b) (hr : Row w b xs) : Own w B (.slice (some ⟨b, 0, none⟩) (strip xs).length xs.length) (strip xs) := by
  have := Own.row (off := 0) (n := (Dig.strip xs).length) (cap := xs.length) hB hr (strip_length_le _) (by omega)
  rw [List.drop_zero, ← strip_take] at this
  exact this

theorem val_snoc_zero (X : List Nat) : val (X ++ [0]) = val X := by rw [val_append]; simp [val]

theorem Cells.lt_block {w : World} {b off : Nat} {ds : List Nat} (h : Cells w (some ⟨b, off, none⟩) ds) (hne : ds ≠ []) : b < w.heap.size := by
  obtain ⟨b', off', ho, hc⟩ := h.resolve_left hne
  cases ho
  exact Cells.lt hc hne

/-- What can be read in w does not lie in a block that is not there yet. -/
theorem Cells.off_new {w : World} {oa : Option Addr} {ds : List Nat} (h : Cells w oa ds) {b : Nat} (hb : w.heap.size ≤ b) (hne : ds ≠ []) : Off b oa := by
  obtain ⟨b', off', ho, hc⟩ := h.resolve_left hne
  have := Cells.lt hc hne
  intro a ha
  rw [ho] at ha
  cases ha
  show b' ≠ b
  omega

theorem trim_n (oa : Option Addr) (n cap : Nat) (ds : List Nat) (w : World) (e : ds.length = n) (hl : n ≤ 1099511627776) (hc : n ≤ cap) (hcell : Cells w oa ds) :
    Calls Tryd.prog 39 #[.slice oa n cap] w fun e w' => e = .returned (.slice oa (strip ds).length cap) ∧ w = w' := by
  subst e; exact trim_any oa cap ds w hl hc hcell
theorem Row.cells {w : World} {b : Nat} {xs : List Nat} (h : Row w b xs) : Cells w (some ⟨b, 0, none⟩) xs := by
  have := Cells.of_row (off := 0) (n := xs.length) h (by omega)
  simpa using this
theorem Own.strip' {w : World} {B b n : Nat} {xs : List Nat} (hB : B ≤ b) (hr : Row w b xs) (hn : xs.length = n) : Own w B (.slice (some ⟨b, 0, none⟩) (Dig.strip xs).length n) (Dig.strip xs) := by
  subst hn; exact Own.strip hB hr

theorem add_fin {X Y us : List Nat} {c : Nat} (okX : OK X) (okY : OK Y) (ok : OK us) (hl : Y.length ≤ X.length) (h : us.length = (X ++ [0]).length)
    (heq : val (seg us 0 (X.length + 1)) + pw (X.length + 1) * c = val (seg (X ++ [0]) 0 (X.length + 1)) + 1 * val Y) : strip us = dig (val X + val Y) := by
  have e1 : seg us 0 (X.length + 1) = us := by have := seg_all us; rw [h] at this; simpa using this
  have e2 : seg (X ++ [0]) 0 (X.length + 1) = X ++ [0] := by have := seg_all (X ++ [0]); simpa using this
  rw [e1, e2, val_snoc_zero, Nat.one_mul] at heq
  have h1 := val_lt okX
  have h2 := val_lt okY
  have h3 := pw_mono hl
  have hc : c = 0 := by
    rcases Nat.eq_zero_or_pos c with hc | hc
    · exact hc
    · have h4 : pw (X.length + 1) * 1 ≤ pw (X.length + 1) * c := Nat.mul_le_mul_left _ hc
      simp only [pw] at h4 heq
      omega
  subst hc
  rw [← dig_val ok]
  congr 1

set_option maxHeartbeats 800000 in
set_option maxRecDepth 20000 in
/-- Add. -/
theorem add_any (oa ob : Option Addr) (ca cb : Nat) (xs ys : List Nat) (w : World) (hxl : xs.length ≤ 1000000000000) (hyl : ys.length ≤ 1000000000000) (hxc : xs.length ≤ ca) (hyc : ys.length ≤ cb)
    (okx : OK xs) (oky : OK ys) (hx : Cells w oa xs) (hy : Cells w ob ys) :
    Calls Tryd.prog 8 #[.slice oa xs.length ca, .slice ob ys.length cb] w fun e w' => ∃ v, e = .returned v ∧ Own w' w.heap.size v (dig (val xs + val ys)) ∧ Below w.heap.size w w' := by
  have h1 := strip_length_le xs
  have h2 := strip_length_le ys
  have hx' := hx.strip
  have hy' := hy.strip
  have ex := val_strip xs
  have ey := val_strip ys
  have okX := OK_strip okx
  have okY := OK_strip oky
  generalize val xs = m at *
  generalize val ys = n at *
  have HX := hide ex
  have HY := hide ey
  clear ex ey
  go_enter Tryd.func8, Tryd.ntmps8
  go_wp2_with fail
  refine (trim_any oa ca xs _ (by omega) hxc hx).mono ?_
  rintro e w' ⟨rfl, rfl⟩
  go_wp2_with fail
  refine (trim_any ob cb ys _ (by omega) hyc hy).mono ?_
  rintro e w' ⟨rfl, rfl⟩
  generalize strip xs = X at *
  generalize strip ys = Y at *
  by_cases hlt : X.length < Y.length
  · go_wp2_with fail
    refine (widen_any ob cb Y w (by omega) okY hy').mono ?_
    rintro e w1 ⟨rfl, hrow, hb⟩
    go_wp2_with fail
    refine (addTimes_any w.heap.size 0 (Y.length + 1) (Y.length + 1) (Y ++ [0]) X oa ca 1 w1 (by omega) (Nat.le_refl _) hrow (by simp) (by simp; omega) (by omega) (by omega) okX (hx'.below hb (Nat.le_refl _)) (fun hne => hx'.off_new (Nat.le_refl _) hne) (by decide)).mono ?_
    rintro e w2 ⟨c, us', rfl, hrow2, hon, hul, _, heq⟩
    go_wp2_with fail
    have hlen : us'.length = Y.length + 1 := by rw [hul]; simp
    refine (trim_n _ _ _ us' w2 hlen (by omega) (Nat.le_refl _) hrow2.cells).mono ?_
    rintro e w' ⟨rfl, rfl⟩
    have hfin := add_fin okY okX hrow2.2 (by omega) hul heq
    have hown := Own.strip' (Nat.le_refl w.heap.size) hrow2 hlen
    rw [hfin, HX.out, HY.out, Nat.add_comm] at hown
    have hbb := hb.trans (hon.below (Nat.le_refl w.heap.size))
    have HF := hide hfin
    clear hfin heq hlen hul
    go_wp2
    go_ret
    exact ⟨_, rfl, by rw [HF.out, HX.out, HY.out, Nat.add_comm]; exact hown, hbb⟩
  · go_wp2_with fail
    refine (widen_any oa ca X w (by omega) okX hx').mono ?_
    rintro e w1 ⟨rfl, hrow, hb⟩
    go_wp2_with fail
    refine (addTimes_any w.heap.size 0 (X.length + 1) (X.length + 1) (X ++ [0]) Y ob cb 1 w1 (by omega) (Nat.le_refl _) hrow (by simp) (by simp; omega) (by omega) (by omega) okY (hy'.below hb (Nat.le_refl _)) (fun hne => hy'.off_new (Nat.le_refl _) hne) (by decide)).mono ?_
    rintro e w2 ⟨c, us', rfl, hrow2, hon, hul, _, heq⟩
    go_wp2_with fail
    have hlen : us'.length = X.length + 1 := by rw [hul]; simp
    refine (trim_n _ _ _ us' w2 hlen (by omega) (Nat.le_refl _) hrow2.cells).mono ?_
    rintro e w' ⟨rfl, rfl⟩
    have hfin := add_fin okX okY hrow2.2 (by omega) hul heq
    have hown := Own.strip' (Nat.le_refl w.heap.size) hrow2 hlen
    rw [hfin, HX.out, HY.out] at hown
    have hbb := hb.trans (hon.below (Nat.le_refl w.heap.size))
    have HF := hide hfin
    clear hfin heq hlen hul
    go_wp2
    go_ret
    exact ⟨_, rfl, by rw [HF.out, HX.out, HY.out]; exact hown, hbb⟩
end Go.Proofs.YtjcfhbekpmpbeaaDoor
