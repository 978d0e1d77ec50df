/- zint: Sub, Cmp, From. -/
import Derived.Test.YtbiiglcfdphmaaaZ2
namespace Go.Proofs.Ytbiiglcfdphmaaa
open Go.RowKit Dig

/-- How two numbers are ordered. -/
def zcmp (x y : Int) : Int := if x < y then -1 else if x = y then 0 else 1
theorem isnan_any (x : Int) (w : World) : Calls Try.prog 113 #[.int .i64 x] w fun e w' => e = .returned (.bool false) ∧ Below w.heap.size w w' := by
  have h : (x == x) = true := by simp
  go_enter Try.func113, Try.ntmps113
  go_wp2
  go_ret
  exact ⟨by simp, Below.refl _ _⟩
set_option maxHeartbeats 1000000 in
set_option maxRecDepth 20000 in
theorem compare_any (x y : Int) (w : World) : Calls Try.prog 88 #[.int .i64 x, .int .i64 y] w fun e w' => e = .returned (.int .i64 (zcmp x y)) ∧ Below w.heap.size w w' := by
  obtain ⟨g, hg⟩ : ∃ g, zcmp x y = g := ⟨_, rfl⟩
  have HG := hide hg
  rw [hg]
  clear hg
  rcases (show x < y ∨ x = y ∨ y < x by omega) with h | h | h
  · have h1 : g = -1 := by rw [← HG.out]; unfold zcmp; rw [if_pos h]
    rw [h1]
    go_enter Try.func88, Try.ntmps88
    have hb := Below.refl w.heap.size w
    go_wp2_with fail
    refine (isnan_any x _).mono ?_
    rintro e w_1 ⟨rfl, hb_1⟩
    replace hb := hb.trans (hb_1.mono hb.size)
    clear hb_1
    go_wp2_with fail
    refine (isnan_any y _).mono ?_
    rintro e w_2 ⟨rfl, hb_2⟩
    replace hb := hb.trans (hb_2.mono hb.size)
    clear hb_2
    go_wp2
    go_ret
    exact ⟨rfl, hb⟩
  · have h1 : g = 0 := by rw [← HG.out]; unfold zcmp; rw [if_neg (by omega), if_pos h]
    rw [h1]
    subst h
    have hn : ¬ x < x := by omega
    go_enter Try.func88, Try.ntmps88
    have hb := Below.refl w.heap.size w
    go_wp2_with fail
    refine (isnan_any x _).mono ?_
    rintro e w_1 ⟨rfl, hb_1⟩
    replace hb := hb.trans (hb_1.mono hb.size)
    clear hb_1
    go_wp2_with fail
    refine (isnan_any x _).mono ?_
    rintro e w_2 ⟨rfl, hb_2⟩
    replace hb := hb.trans (hb_2.mono hb.size)
    clear hb_2
    go_wp2
    go_ret
    exact ⟨rfl, hb⟩
  · have h1 : g = 1 := by rw [← HG.out]; unfold zcmp; rw [if_neg (by omega), if_neg (by omega)]
    rw [h1]
    have hn : ¬ x < y := by omega
    go_enter Try.func88, Try.ntmps88
    have hb := Below.refl w.heap.size w
    go_wp2_with fail
    refine (isnan_any x _).mono ?_
    rintro e w_1 ⟨rfl, hb_1⟩
    replace hb := hb.trans (hb_1.mono hb.size)
    clear hb_1
    go_wp2_with fail
    refine (isnan_any y _).mono ?_
    rintro e w_2 ⟨rfl, hb_2⟩
    replace hb := hb.trans (hb_2.mono hb.size)
    clear hb_2
    go_wp2
    go_ret
    exact ⟨rfl, hb⟩
end Go.Proofs.Ytbiiglcfdphmaaa

