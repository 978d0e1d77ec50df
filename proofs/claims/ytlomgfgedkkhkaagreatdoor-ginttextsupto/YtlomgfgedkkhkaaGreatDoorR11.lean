/- The reference's Parse answers the digits of a text's worth. -/
import Derived.Test.YtlomgfgedkkhkaaGreatDoorR14ToR10
namespace Go.Proofs.YtlomgfgedkkhkaaGreatDoor
open Go.RowKit Dig

theorem rmul_rd' {w : World} {va vb : Value} {xs ys : List Nat} (hx : Rd w va xs) (hy : Rd w vb ys) (hxl : xs.length ≤ 100000000000) (hyl : ys.length ≤ 100000000000) :
    Calls Tryz.prog 111 #[va, vb] w fun e w' => ∃ v, e = .returned v ∧ Rd w' v (dig (val xs * val ys)) ∧ Below w.heap.size w w' := by
  obtain ⟨oa, ca, rfl, hca, okx, hcx⟩ := hx
  obtain ⟨ob, cb, rfl, hcb, oky, hcy⟩ := hy
  exact rmul_any oa ob ca cb xs ys w (by omega) (by omega) okx oky hcx hcy
theorem radd_rd' {w : World} {va vb : Value} {xs ys : List Nat} (hx : Rd w va xs) (hy : Rd w vb ys) (hxl : xs.length ≤ 100000000000) (hyl : ys.length ≤ 100000000000) :
    Calls Tryz.prog 110 #[va, vb] w fun e w' => ∃ v, e = .returned v ∧ Rd w' v (dig (val xs + val ys)) ∧ Below w.heap.size w w' := by
  obtain ⟨oa, ca, rfl, hca, okx, hcx⟩ := hx
  obtain ⟨ob, cb, rfl, hcb, oky, hcy⟩ := hy
  exact radd_any oa ob ca cb xs ys w (by omega) (by omega) okx oky hcx hcy
theorem all_part {L : List UInt8} (h : L.all isD = true) (e m : Nat) : ((L.drop e).take m).all isD = true := by
  rw [List.all_eq_true] at h ⊢
  exact fun x hx => h x (List.mem_of_mem_drop (List.mem_of_mem_take hx))
theorem part_snoc (s : ByteArray) (e m : Nat) (h : e + m < s.size) : (s.data.toList.drop e).take (m + 1) = (s.data.toList.drop e).take m ++ [s[e + m]] := by
  have hl : e + m < s.data.toList.length := by rw [Array.length_toList]; exact h
  rw [List.take_add_one, List.getElem?_drop, List.getElem?_eq_getElem hl]
  rfl
theorem part_step {s : ByteArray} {e m : Nat} (h : (e + m = s.size ∧ m ≤ 9) ∨ m = 9) :
    pval (s.data.toList.take (e + 9)) = pval (s.data.toList.take e) * 10 ^ ((s.data.toList.drop e).take m).length + pval ((s.data.toList.drop e).take m) := by
  have hl : s.data.toList.length = s.size := Array.length_toList
  have e1 : s.data.toList.take (e + 9) = s.data.toList.take e ++ (s.data.toList.drop e).take m := by
    rw [List.take_add]
    rcases h with ⟨h, h9⟩ | h
    · rw [List.take_of_length_le (i := 9) (by rw [List.length_drop]; omega), List.take_of_length_le (i := m) (by rw [List.length_drop]; omega)]
    · rw [h]
  rw [e1, pval_append]
set_option maxHeartbeats 1000000 in
set_option maxRecDepth 20000 in
theorem rparse_any (s : ByteArray) (w : World) (hs : s.size ≤ 65536) (hd : s.data.toList.all isD = true) :
    Calls Tryz.prog 84 #[.string s] w fun e w' => ∃ v, e = .returned v ∧ Rd w' v (dig (pval s.data.toList)) ∧ Below w.heap.size w w' := by
  have HD := hide hd
  have hlen : s.data.toList.length = s.size := Array.length_toList
  have HL := hide hlen
  clear hd hlen
  go_enter Tryz.func84, Tryz.ntmps84
  go_wp2_with fail
  go_loopw [3, 4] (fun v i wr => ∃ e : Nat, i = .int .i64 (e : Int) ∧ e ≤ s.size + 8 ∧ Rd wr v (dig (pval (s.data.toList.take e))) ∧ Below w.heap.size w wr) (fun _ i _ => s.size + 9 - (intOf i).toNat)
  case atStart => exact ⟨0, rfl, by omega, ⟨none, 0, rfl, Nat.le_refl _, OK.nil, .inl rfl⟩, Below.refl _ _⟩
  case round =>
    obtain ⟨e, rfl, he, hv, hb⟩ := hrel
    by_cases hlt : e < s.size
    · go_wp2_with fail
      go_loop [5, 6, 7] (fun n sc k => ∃ m : Nat, e + m ≤ s.size ∧ m ≤ 9 ∧ k = .int .i64 ((e + m : Nat) : Int) ∧ n = .int .u32 ((pval ((s.data.toList.drop e).take m) : Nat) : Int) ∧ sc = .int .u32 ((10 ^ m : Nat) : Int)) (fun _ _ k => s.size - (intOf k).toNat)
      case atStart => exact ⟨0, by omega, by omega, rfl, rfl, rfl⟩
      case round =>
        obtain ⟨m, hm1, hm2, rfl, rfl, rfl⟩ := hrel
        have hpl : ((s.data.toList.drop e).take m).length = m := by rw [List.length_take, List.length_drop, HL.out]; omega
        have hpb := pval_lt (all_part HD.out e m) (Nat.le_of_eq hpl)
        by_cases hin : e + m < s.size ∧ m < 9
        · obtain ⟨hA, hB⟩ := hin
          have hc : 48 ≤ s[e + m].toNat ∧ s[e + m].toNat ≤ 57 := by
            have h := all_part HD.out e (m + 1)
            rw [part_snoc s e m hA, List.all_append, Bool.and_eq_true] at h
            simpa [isD] using h.2
          have HP : Hid (pval ((s.data.toList.drop e).take (m + 1)) = pval ((s.data.toList.drop e).take m) * 10 + (s[e + m].toNat - 48)) := by
            show _ = _
            rw [part_snoc s e m hA, pval_snoc]
          have HT : Hid (10 ^ (m + 1) = 10 ^ m * 10) := by
            show _ = _
            exact Nat.pow_succ ..
          have hT : 10 ^ m ≤ 10 ^ 8 := Nat.pow_le_pow_right (by decide) (by omega)
          obtain ⟨hc1, hc2⟩ := hc
          generalize 10 ^ m = T at *
          generalize pval ((s.data.toList.drop e).take m) = P at *
          have hP : P < 100000000 := by omega
          clear hpb hpl
          go_wp2
          go_round
          case rel => exact ⟨m + 1, by omega, by omega, by go_num, congrArg (fun z : Int => Value.int .u32 z) (by rw [HP.out]; omega), congrArg (fun z : Int => Value.int .u32 z) (by rw [HT.out]; omega)⟩
          case measure => simp [intOf]; omega
        · have hor : (e + m = s.size ∧ m ≤ 9) ∨ m = 9 := by omega
          have hst := part_step hor
          rw [hpl] at hst
          have HST := hide hst
          have hT : 10 ^ m ≤ 10 ^ 9 := Nat.pow_le_pow_right (by decide) hm2
          have hA := pval_dig_length (l := s.data.toList.take e) (by simpa using all_part HD.out 0 e) (by rw [List.length_take, HL.out]; omega)
          have hm10 : (e + m = s.size) ∨ (e + m < s.size ∧ m = 9) := by omega
          have hAT : pval (s.data.toList.take (e + 9)) < 10 ^ 65536 ∨ True := .inr trivial
          clear hst hAT
          generalize 10 ^ m = T at *
          generalize pval ((s.data.toList.drop e).take m) = P at *
          have hP : P < 4294967296 := by omega
          have hT2 : T < 4294967296 := by omega
          clear hpb hpl
          have hlT := lit1 wr T hT2
          have vone : ∀ z : Nat, val [z] = z := fun z => by simp [val]
          have hl2 : (dig (pval (s.data.toList.take e) * T)).length ≤ 8193 := by
            refine dig_length_le ?_
            have h1 := val_lt (OK_dig (pval (s.data.toList.take e)))
            rw [val_dig] at h1
            have h2 := Nat.lt_of_lt_of_le h1 (pw_mono hA)
            rw [show 8193 = 8192 + 1 from rfl, pw_add]
            exact Nat.mul_lt_mul_of_lt_of_le h2 (by simp only [pw]; omega) (pw_pos _)
          rcases hm10 with hx | ⟨hx, hx9⟩
          · go_wp2_with fail
            refine (rmul_rd' (hv.alloc _) hlT (by omega) (by simp)).mono ?_
            rintro e' w2 ⟨v2, rfl, h2, hb2⟩
            rw [val_dig, vone] at h2
            have hbA := hb.alloc hb.size (.cells #[.int .u32 (T : Int)] 56)
            have hbB := hbA.trans (hb2.mono hbA.size)
            have hlP := lit1 w2 P hP
            have hbC := hbB.alloc hbB.size (.cells #[.int .u32 (P : Int)] 56)
            clear hlT hb2 hbA
            go_wp2_with fail
            refine (radd_rd' (h2.alloc _) hlP (by omega) (by simp)).mono ?_
            rintro e' w3 ⟨v3, rfl, h3, hb3⟩
            rw [val_dig, vone, ← HST.out] at h3
            have hbD := hbC.trans (hb3.mono hbC.size)
            clear hlP hb3 hbC hbB h2
            go_wp2
            go_roundw
            case rel => exact ⟨e + 9, by go_num, by omega, h3, hbD⟩
            case measure => simp [intOf]; omega
          · subst hx9
            go_wp2_with fail
            refine (rmul_rd' (hv.alloc _) hlT (by omega) (by simp)).mono ?_
            rintro e' w2 ⟨v2, rfl, h2, hb2⟩
            rw [val_dig, vone] at h2
            have hbA := hb.alloc hb.size (.cells #[.int .u32 (T : Int)] 56)
            have hbB := hbA.trans (hb2.mono hbA.size)
            have hlP := lit1 w2 P hP
            have hbC := hbB.alloc hbB.size (.cells #[.int .u32 (P : Int)] 56)
            clear hlT hb2 hbA
            go_wp2_with fail
            refine (radd_rd' (h2.alloc _) hlP (by omega) (by simp)).mono ?_
            rintro e' w3 ⟨v3, rfl, h3, hb3⟩
            rw [val_dig, vone, ← HST.out] at h3
            have hbD := hbC.trans (hb3.mono hbC.size)
            clear hlP hb3 hbC hbB h2
            go_wp2
            go_roundw
            case rel => exact ⟨e + 9, by go_num, by omega, h3, hbD⟩
            case measure => simp [intOf]; omega
    · have hfin : s.data.toList.take e = s.data.toList := List.take_of_length_le (by rw [HL.out]; omega)
      rw [hfin] at hv
      clear hfin
      go_wp2_with fail
      go_ret
      exact ⟨_, rfl, hv, hb⟩
end Go.Proofs.YtlomgfgedkkhkaaGreatDoor

