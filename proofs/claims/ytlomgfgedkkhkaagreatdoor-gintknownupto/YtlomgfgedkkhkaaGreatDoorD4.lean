/- nat.guessDigit: the guess is the true digit or more, and is a digit. -/
import Derived.Test.YtlomgfgedkkhkaaGreatDoorD3
namespace Go.Proofs.YtlomgfgedkkhkaaGreatDoor
open Go.RowKit Dig

theorem sd_lt (ds : List Nat) (k : Int) (s : Nat) : sdg ds k s < 4294967296 := by
  unfold sdg
  have := Nat.mod_lt ((dg ds k * 4294967296 + dg ds (k - 1)) * 2 ^ s) (show 0 < 18446744073709551616 by omega)
  omega
set_option maxHeartbeats 1600000 in
set_option maxRecDepth 100000 in
theorem guessDigit_any (ow ov : Option Addr) (n cw cv : Nat) (ws vs : List Nat) (s : Nat) (w : World) (hw : ws.length = n + 1) (hv : vs.length = n) (hn : 0 < n) (hl : n ≤ 10000000000) (okw : OK ws) (okv : OK vs) (hcw : Cells w ow ws) (hcv : Cells w ov vs)
    (hs : s < 32) (htop : (vs[n - 1]?.getD 0 + 1) * 2 ^ s ≤ 4294967296) (hpos : 2147483648 ≤ vs[n - 1]?.getD 0 * 2 ^ s) (hlt : val ws < val vs * 4294967296) :
    Calls Tryz.prog 116 #[.slice ow (n + 1) cw, .slice ov n cv, .int .i64 (s : Int)] w fun e w' => ∃ g : Nat, e = .returned (.int .u32 (g : Int)) ∧ val ws / val vs ≤ g ∧ g < 4294967296 ∧ ∀ b, Only b w w' := by
  obtain ⟨W, V, lw, lv, hV0, hWV, hWlt, hW, hlw, hV, hlv, hf0⟩ := guess_facts okw okv hw hv hn hs htop hpos hlt
  obtain ⟨Q, hQ⟩ : ∃ Q, val ws / val vs = Q := ⟨_, rfl⟩
  rw [hQ] at hWV ⊢
  have F := hide (And.intro hV0 (And.intro hWV (And.intro hWlt (And.intro hW (And.intro hlw (And.intro hV (And.intro hlv hf0)))))))
  clear hV0 hWV hWlt hW hlw hV hlv hf0 htop hpos hlt hQ
  obtain ⟨a, Ha⟩ : ∃ a, Hid (sdg ws n s = a) := ⟨_, hide rfl⟩
  obtain ⟨b, Hb⟩ : ∃ b, Hid (sdg ws ((n : Int) - 1) s = b) := ⟨_, hide rfl⟩
  obtain ⟨t, Ht⟩ : ∃ t, Hid (sdg ws ((n : Int) - 2) s = t) := ⟨_, hide rfl⟩
  obtain ⟨f, Hf⟩ : ∃ f, Hid (sdg vs ((n : Int) - 1) s = f) := ⟨_, hide rfl⟩
  obtain ⟨c, Hc⟩ : ∃ c, Hid (sdg vs ((n : Int) - 2) s = c) := ⟨_, hide rfl⟩
  have ha : a < 4294967296 := by rw [← Ha.out]; exact sd_lt _ _ _
  have hb : b < 4294967296 := by rw [← Hb.out]; exact sd_lt _ _ _
  have ht : t < 4294967296 := by rw [← Ht.out]; exact sd_lt _ _ _
  have hf : f < 4294967296 := by rw [← Hf.out]; exact sd_lt _ _ _
  have hc : c < 4294967296 := by rw [← Hc.out]; exact sd_lt _ _ _
  have hf0 : 0 < f := by rw [← Hf.out]; exact F.out.2.2.2.2.2.2.2
  obtain ⟨H, hH⟩ : ∃ H, a * 4294967296 + b = H := ⟨_, rfl⟩
  have hor : bits .or .u64 ((a : Int) * 4294967296) (b : Int) = (H : Int) := by rw [or_hi a b ha hb, ← hH]; simp
  have hHb : H < 18446744073709551616 := by omega
  have HH := hide hH
  clear hH
  go_enter Tryz.func116, Tryz.ntmps116
  go_wp2_with fail
  refine (shiftedDigit_any ov n cv vs ((n : Int) - 1) s w hv (by omega) okv hcv (by omega) (by omega) hs).mono ?_
  rintro e1 w1 ⟨rfl, rfl⟩
  rw [Hf.out]
  go_wp2_with fail
  refine (shiftedDigit_any ov n cv vs ((n : Int) - 2) s w hv (by omega) okv hcv (by omega) (by omega) hs).mono ?_
  rintro e1 w1 ⟨rfl, rfl⟩
  rw [Hc.out]
  go_wp2_with fail
  refine (shiftedDigit_any ow (n + 1) cw ws (n : Int) s w hw (by omega) okw hcw (by omega) (by omega) hs).mono ?_
  rintro e1 w1 ⟨rfl, rfl⟩
  rw [Ha.out]
  go_wp2_with fail
  refine (shiftedDigit_any ow (n + 1) cw ws ((n : Int) - 1) s w hw (by omega) okw hcw (by omega) (by omega) hs).mono ?_
  rintro e1 w1 ⟨rfl, rfl⟩
  rw [Hb.out]
  go_wp2_with fail
  refine (shiftedDigit_any ow (n + 1) cw ws ((n : Int) - 2) s w hw (by omega) okw hcw (by omega) (by omega) hs).mono ?_
  rintro e1 w1 ⟨rfl, rfl⟩
  rw [Ht.out]
  go_wp2_with fail
  go_region
  all_goals go_wp2_with fail
  go_loopw [12, 13] (fun x y wr => ∃ g r : Nat, x = .int .u64 (g : Int) ∧ y = .int .u64 (r : Int) ∧ g < 18446744073709551616 ∧ r < 8589934592 ∧ Hid (g * f + r = H ∧ Q ≤ g) ∧ ∀ b, Only b w wr) (fun x _ _ => (intOf x).toNat)
  case atStart =>
    have h1 : H / f < 18446744073709551616 := Nat.lt_of_le_of_lt (Nat.div_le_self _ _) hHb
    have h2 : H % f < f := Nat.mod_lt _ hf0
    have e1 : IntKind.u64.wrap ((H : Int) / (f : Int)) = ((H / f : Nat) : Int) := by
      rw [← Int.natCast_ediv, IntKind.wrap_u64]; generalize H / f = z at *; omega
    have e2 : (H : Int) % (f : Int) = ((H % f : Nat) : Int) := by rw [← Int.natCast_emod]
    rw [e1, e2]
    refine ⟨H / f, H % f, rfl, rfl, h1, by omega, hide ⟨?_, ?_⟩, fun b => (Only.refl b w).drew⟩
    · rw [Nat.mul_comm]; exact Nat.div_add_mod H f
    · have hF := F.out
      rw [Ha.out, Hb.out, Ht.out, HH.out] at hF
      rw [Hf.out, Hc.out] at hF
      rw [← hF.2.1]; exact guess_first (pw_pos n) hf0 hF.2.2.2.1 ht hF.2.2.2.2.1 hF.2.2.2.2.2.1
  case round =>
    obtain ⟨g, r, rfl, rfl, hg, hr, hI, ho⟩ := hrel
    have hF := F.out
    rw [Ha.out, Hb.out, Ht.out, HH.out] at hF
    rw [Hf.out, Hc.out] at hF
    obtain ⟨hV0, hWV, hWlt, hW, hlw, hV, hlv, -⟩ := hF
    by_cases hrB : r < 4294967296
    · by_cases hgB : 4294967296 ≤ g
      · have hmore : Q < g := by rw [← hWV]; exact guess_base hV0 hWlt hgB
        have hI' : Hid ((g - 1) * f + (r + f) = H ∧ Q ≤ g - 1) := hide ⟨by
          have := hI.out.1
          obtain ⟨g', rfl⟩ : ∃ g', g = g' + 1 := ⟨g - 1, by omega⟩
          rw [Nat.add_sub_cancel]; rw [Nat.add_mul] at this; omega, by omega⟩
        clear hV0 hWV hWlt hW hlw hV hlv hmore F hI hor
        have h5 : ((r : Int) < 4294967296) = True := by simp; omega
        have h6 : ((4294967296 : Int) ≤ (g : Int)) = True := by simp; omega
        go_wp2_with fail
        go_roundw
        case rel => exact ⟨g - 1, r + f, by go_num, by go_num, by omega, by omega, hI', ho⟩
        case measure => simp [intOf]; omega
      · have hor2 := or_hi r t hrB ht
        have hp : (g : Int) * (c : Int) = ((g * c : Nat) : Int) := by simp
        have hpb : g * c < 18446744073709551616 := by
          have := Nat.mul_le_mul (show g ≤ 4294967295 by omega) (show c ≤ 4294967295 by omega)
          omega
        by_cases htest : r * 4294967296 + t < g * c
        · have hmore : Q < g := by rw [← hWV]; exact guess_much hV0 hW hlw hV hI.out.1 htest
          have hI' : Hid ((g - 1) * f + (r + f) = H ∧ Q ≤ g - 1) := hide ⟨by
            have := hI.out.1
            obtain ⟨g', rfl⟩ : ∃ g', g = g' + 1 := ⟨g - 1, by omega⟩
            rw [Nat.add_sub_cancel]; rw [Nat.add_mul] at this; omega, by omega⟩
          have hg0 : 0 < g := by omega
          clear hV0 hWV hWlt hW hlw hV hlv hmore F hI hor
          generalize g * c = p at *
          have h5 : ((r : Int) < 4294967296) = True := by simp; omega
          have h6 : ((4294967296 : Int) ≤ (g : Int)) = False := by simp; omega
          have h7 : ((r : Int) * 4294967296 + (t : Int) < (p : Int)) = True := by simp; omega
          go_wp2_with fail
          go_roundw
          case rel => exact ⟨g - 1, r + f, by go_num, by go_num, by omega, by omega, hI', ho⟩
          case measure => simp [intOf]; omega
        · have hfin : Q ≤ g := hI.out.2
          clear hV0 hWV hWlt hW hlw hV hlv F hI hor
          generalize g * c = p at *
          have h5 : ((r : Int) < 4294967296) = True := by simp; omega
          have h6 : ((4294967296 : Int) ≤ (g : Int)) = False := by simp; omega
          have h7 : ((r : Int) * 4294967296 + (t : Int) < (p : Int)) = False := by simp; omega
          go_wp2_with fail
          go_ret
          exact ⟨g, rfl, hfin, by omega, ho⟩
    · have hfin : Q ≤ g := hI.out.2
      have hgB : g < 4294967296 := guess_rest hW hlv hV hc hWlt hI.out.1 (by omega)
      clear hV0 hWV hWlt hW hlw hV hlv F hI hor
      have h5 : ((r : Int) < 4294967296) = False := by simp; omega
      go_wp2_with fail
      go_ret
      exact ⟨g, rfl, hfin, hgB, ho⟩
end Go.Proofs.YtlomgfgedkkhkaaGreatDoor

