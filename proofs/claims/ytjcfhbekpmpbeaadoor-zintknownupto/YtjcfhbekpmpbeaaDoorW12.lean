/- nat.Parse: the number of a text of digits, or the error. -/
import Derived.Test.YtjcfhbekpmpbeaaDoorW11
import Derived.Test.YtjcfhbekpmpbeaaDoorR1
import Derived.Lib.Strings
namespace Go.Proofs.YtjcfhbekpmpbeaaDoor
open Go.RowKit Dig

def parseI (s : ByteArray) : Int := if 65536 < s.size then 12 else if digitsB s.data.toList then 0 else 7
def parseD (s : ByteArray) : List Nat := if 65536 < s.size then [] else if digitsB s.data.toList then dig (pval s.data.toList) else []

theorem pval_append (a b : List UInt8) : pval (a ++ b) = pval a * 10 ^ b.length + pval b := by
  refine revInd (p := fun b => pval (a ++ b) = pval a * 10 ^ b.length + pval b) ?_ ?_ b
  · simp [pval]
  · intro l c ih
    rw [← List.append_assoc, pval_snoc, pval_snoc, ih, List.length_append, List.length_singleton, Nat.pow_succ, Nat.add_mul, Nat.mul_assoc, Nat.add_assoc]

theorem two_le_pw' {n m : Nat} (h : n ≤ 32 * m) : 2 ^ n ≤ pw m := by
  rw [pw_eq]; exact Nat.pow_le_pow_right (by decide) h

theorem pval_dig_length {l : List UInt8} (hd : l.all isD = true) (hl : l.length ≤ 65536) : (dig (pval l)).length ≤ 8192 := by
  have h := pval_lt hd (Nat.le_refl _)
  refine dig_length_le (Nat.lt_of_lt_of_le h ?_)
  have e : (10 : Nat) ^ l.length ≤ 16 ^ l.length := Nat.pow_le_pow_left (by decide) _
  have e2 : (16 : Nat) ^ l.length = 2 ^ (4 * l.length) := by rw [Nat.pow_mul]
  rw [e2] at e
  exact Nat.le_trans e (two_le_pw' (by omega))

set_option maxHeartbeats 1000000 in
set_option maxRecDepth 20000 in
theorem parse_any (s : ByteArray) (w : World) (hs : s.size ≤ 1000000000) :
    Calls Tryd.prog 69 #[.string s] w fun e w' => ∃ v, e = .returned (.tuple #[v, .int .i64 (parseI s)]) ∧ Rd w' v (parseD s) ∧ Below w.heap.size w w' := by
  by_cases h1 : 65536 < s.size
  · have e1 : parseI s = 12 := by unfold parseI; rw [if_pos h1]
    have e2 : parseD s = [] := by unfold parseD; rw [if_pos h1]
    rw [e1, e2]
    go_enter Tryd.func69, Tryd.ntmps69
    go_wp2_with fail
    go_ret2
    exact ⟨_, rfl, ⟨none, 0, rfl, Nat.le_refl _, OK.nil, .inl rfl⟩, Below.refl _ _⟩
  · by_cases h2 : digitsB s.data.toList = true
    · have e1 : parseI s = 0 := by unfold parseI; rw [if_neg h1, if_pos h2]
      have e2 : parseD s = dig (pval s.data.toList) := by unfold parseD; rw [if_neg h1, if_pos h2]
      rw [e1, e2]
      have hall : s.data.toList.all isD = true := by unfold digitsB at h2; rw [Bool.and_eq_true] at h2; exact h2.1
      have hne : 0 < s.size := by
        unfold digitsB at h2
        rw [Bool.and_eq_true] at h2
        rcases Nat.eq_zero_or_pos s.size with h | h
        · have e : s.data.toList = [] := List.length_eq_zero_iff.1 (by rw [Array.length_toList]; exact h)
          rw [e] at h2; simp at h2
        · exact h
      have Hall := hide hall
      clear e1 e2 hall
      go_enter Tryd.func69, Tryd.ntmps69
      go_wp2_with fail
      refine (isDigits_any s w (by omega)).mono ?_
      rintro e w' ⟨rfl, rfl⟩
      rw [h2]
      clear h2
      go_wp2_with fail
      go_loopw [4, 5] (fun v i wr => ∃ e q : Nat, i = .int .i64 (e : Int) ∧ 1 ≤ e ∧ e + 9 * q = s.size + 9 ∧ wr.ownsRow w.heap.size 24 1 v (dig (pval (s.data.toList.take (e - 9)))).length ((dig (pval (s.data.toList.take (e - 9)))).map dv) ∧ Below w.heap.size w wr) (fun _ i _ => s.size + 9 - (intOf i).toNat)
      case atStart =>
        refine ⟨(s.size - 1) % 9 + 1, (s.size - 1) / 9 + 1, congrArg (fun z : Int => Value.int .i64 z) (by omega), by omega, by omega, ?_, Below.refl _ _⟩
        rw [show (s.size - 1) % 9 + 1 - 9 = 0 by omega]
        exact World.ownsRow_nil _ _ _ _
      case round =>
        obtain ⟨e, q, rfl, he1, heq, hown, hb⟩ := hrel
        by_cases hq : e ≤ s.size
        · have hpre : (s.data.toList.take (e - 9)).all isD = true := by
            have h := Hall.out
            rw [← List.take_append_drop (e - 9) s.data.toList, List.all_append, Bool.and_eq_true] at h
            exact h.1
          have hlen := pval_dig_length hpre (by rw [List.length_take]; omega)
          have hgd : (s.extract (e - 9) e).data.toList = (s.data.toList.drop (e - 9)).take (e - (e - 9)) := Lib.extract_data s (e - 9) e
          have hgall : (s.extract (e - 9) e).data.toList.all isD = true := by
            rw [hgd]
            have h := Hall.out
            rw [List.all_eq_true] at h ⊢
            exact fun x hx => h x (List.mem_of_mem_drop (List.mem_of_mem_take hx))
          have hgs : (s.extract (e - 9) e).size ≤ 9 := by rw [ByteArray.size_extract]; omega
          have hgv := groupValue_any (s.extract (e - 9) e)
          have hgl : (s.extract (e - 9) e).data.toList.length ≤ 9 := by rw [Array.length_toList]; exact hgs
          have hgb := pval_lt hgall hgl
          have hstep : pval (s.data.toList.take (e - 9)) * 1000000000 + pval (s.extract (e - 9) e).data.toList = pval (s.data.toList.take (e + 9 - 9)) := by
            rw [Nat.add_sub_cancel]
            have hsp : s.data.toList.take e = s.data.toList.take (e - 9) ++ (s.extract (e - 9) e).data.toList := by
              rw [hgd]
              have h1 := List.take_append_drop (e - 9) (s.data.toList.take e)
              rw [List.take_take, Nat.min_eq_left (by omega), List.drop_take] at h1
              exact h1.symm
            rw [hsp, pval_append]
            by_cases h9 : 9 ≤ e
            · have : (s.extract (e - 9) e).data.toList.length = 9 := by
                rw [hgd, List.length_take, List.length_drop, Array.length_toList]
                show min (e - (e - 9)) (s.size - (e - 9)) = 9
                omega
              rw [this]
            · have h0 : e - 9 = 0 := by omega
              rw [h0]; simp [pval]
          have HSt := hide hstep
          have hgb' : pval (s.extract (e - 9) e).data.toList < 1000000000 := by simpa using hgb
          clear hstep hgb hgl hgd hpre
          go_wp2_with fail
          rw [show (max (0 : Int) ((e : Int) - 9)).toNat = e - 9 from by omega]
          refine (hgv wr hgs hgall).mono ?_
          rintro e' w' ⟨rfl, rfl⟩
          generalize hP : pval (s.extract (e - 9) e).data.toList = P at *
          go_wp2_with fail
          refine (putGroup_any w.heap.size _ P _ wr hgb' hown hb.size (by omega)).mono ?_
          rintro e' w2 ⟨v', rfl, hown2, hb2⟩
          rw [HSt.out] at hown2
          clear hP
          go_wp2
          go_roundw
          case rel => exact ⟨e + 9, q - 1, by go_num, by omega, by omega, hown2, hb.trans hb2⟩
          case measure => simp [intOf]; omega
        · have hqe : e = s.size + 9 := by omega
          subst hqe
          rw [Nat.add_sub_cancel, take_size] at hown
          have okd := OK_dig (pval s.data.toList)
          go_wp2_with fail
          go_ret2
          exact ⟨_, rfl, Rd.of_owns okd hown, hb⟩
    · have e1 : parseI s = 7 := by unfold parseI; rw [if_neg h1, if_neg h2]
      have e2 : parseD s = [] := by unfold parseD; rw [if_neg h1, if_neg h2]
      rw [e1, e2]
      have h2' : digitsB s.data.toList = false := by simpa using h2
      clear h2
      go_enter Tryd.func69, Tryd.ntmps69
      go_wp2_with fail
      refine (isDigits_any s w (by omega)).mono ?_
      rintro e w' ⟨rfl, rfl⟩
      rw [h2']
      go_wp2
      go_ret2
      exact ⟨_, rfl, ⟨none, 0, rfl, Nat.le_refl _, OK.nil, .inl rfl⟩, Below.refl _ _⟩
end Go.Proofs.YtjcfhbekpmpbeaaDoor
