/- The reference's Digits and Parse: what a text's digits are worth. -/
import Derived.Test.YtkgbfnmlpajblaaGreatDoorR4
import Derived.Test.YtkgbfnmlpajblaaGreatDoorW12
namespace Go.Proofs.YtkgbfnmlpajblaaGreatDoor
open Go.RowKit Dig

set_option maxHeartbeats 400000 in
set_option maxRecDepth 20000 in
theorem rDigits_any (s : ByteArray) (w : World) (hs : s.size ≤ 1000000) :
    Calls Tryz.prog 97 #[.string s] w fun e w' => e = .returned (.bool (digitsB s.data.toList)) ∧ w = w' := by
  obtain ⟨r, Hr⟩ : ∃ r, Hid (digitsB s.data.toList = r) := ⟨_, rfl⟩
  rw [Hr.out]
  go_enter Tryz.func97, Tryz.ntmps97
  go_wp2_with fail
  go_loop [3] (fun i => ∃ k : Nat, k ≤ s.size ∧ i = .int .i64 (k : Int) ∧ (s.data.toList.take k).all isD = true) (fun i => s.size - (intOf i).toNat)
  case atStart => exact ⟨0, Nat.zero_le _, rfl, by simp⟩
  case round =>
    obtain ⟨k, hk, rfl, hall⟩ := hrel
    have Hall := hide hall
    clear hall
    by_cases hlt : k < s.size
    · have hts := take_snoc s k hlt
      by_cases hd : 48 ≤ s[k].toNat ∧ s[k].toNat ≤ 57
      · have h1 : ¬ (s[k].toNat : Int) < 48 := by omega
        have h2 : ¬ (57 : Int) < (s[k].toNat : Int) := by omega
        have HS : Hid ((s.data.toList.take (k + 1)).all isD = true) := by
          show _ = true
          rw [hts, List.all_append, Hall.out]; simp [isD, hd]
        clear hts hd
        go_wp2
        all_goals go_round
        case rel => exact ⟨k + 1, hlt, by go_num, HS.out⟩
        case measure => simp [intOf]; omega
      · have hr : r = false := by
          rw [← Hr.out]
          unfold digitsB
          have : s.data.toList.all isD = false := by
            have e := List.take_append_drop (k + 1) s.data.toList
            rw [← e, List.all_append, hts, List.all_append]
            have : isD s[k] = false := by simp [isD]; omega
            simp [this]
          rw [this]; rfl
        have HR := hide hr
        clear hr hts
        by_cases h1 : s[k].toNat < 48
        · have h1' : (s[k].toNat : Int) < 48 := by omega
          go_wp2
          all_goals go_ret
          all_goals exact ⟨by rw [HR.out]; rfl, rfl⟩
        · have h1' : ¬ (s[k].toNat : Int) < 48 := by omega
          have h2' : (57 : Int) < (s[k].toNat : Int) := by omega
          go_wp2
          all_goals go_ret
          all_goals exact ⟨by rw [HR.out]; rfl, rfl⟩
    · obtain rfl : k = s.size := by omega
      have hr : decide (0 < s.size) = r := by
        rw [← Hr.out]
        have h1 := Hall.out
        rw [take_size] at h1
        unfold digitsB
        rw [h1, Bool.true_and]
        have e : s.size = s.data.toList.length := by rw [Array.length_toList]; rfl
        rw [e]
        cases s.data.toList <;> simp
      have HR := hide hr
      clear hr
      go_wp2_with fail
      go_ret
      refine ⟨?_, rfl⟩
      rw [← HR.out]
      simp

end Go.Proofs.YtkgbfnmlpajblaaGreatDoor
