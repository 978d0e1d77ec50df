/- The reference's Parse answers the digits of a text's worth. -/
import Derived.Test.YtgjainmfilkjmaaDoorG3ToR10
namespace Go.Proofs.YtgjainmfilkjmaaDoor
open Go.RowKit Dig

theorem rmul_rd' {w : World} {va vb : Value} {xs ys : List Nat} (hx : Rd w va xs) (hy : Rd w vb ys) (hxl : xs.length ≤ 100000000000) (hyl : ys.length ≤ 100000000000) :
    Calls Tryd.prog 101 #[va, vb] w fun e w' => ∃ v, e = .returned v ∧ Rd w' v (dig (val xs * val ys)) ∧ Below w.heap.size w w' := by
  obtain ⟨oa, ca, rfl, hca, okx, hcx⟩ := hx
  obtain ⟨ob, cb, rfl, hcb, oky, hcy⟩ := hy
  exact rmul_any oa ob ca cb xs ys w (by omega) (by omega) okx oky hcx hcy
theorem radd_rd' {w : World} {va vb : Value} {xs ys : List Nat} (hx : Rd w va xs) (hy : Rd w vb ys) (hxl : xs.length ≤ 100000000000) (hyl : ys.length ≤ 100000000000) :
    Calls Tryd.prog 96 #[va, vb] w fun e w' => ∃ v, e = .returned v ∧ Rd w' v (dig (val xs + val ys)) ∧ Below w.heap.size w w' := by
  obtain ⟨oa, ca, rfl, hca, okx, hcx⟩ := hx
  obtain ⟨ob, cb, rfl, hcb, oky, hcy⟩ := hy
  exact radd_any oa ob ca cb xs ys w (by omega) (by omega) okx oky hcx hcy

theorem all_part {L : List UInt8} (h : L.all isD = true) (e m : Nat) : ((L.drop e).take m).all isD = true := by
  rw [List.all_eq_true] at h ⊢
  exact fun x hx => h x (List.mem_of_mem_drop (List.mem_of_mem_take hx))

theorem part_snoc (s : ByteArray) (e m : Nat) (h : e + m < s.size) : (s.data.toList.drop e).take (m + 1) = (s.data.toList.drop e).take m ++ [s[e + m]] := by
  have hl : e + m < s.data.toList.length := by rw [Array.length_toList]; exact h
  rw [List.take_add_one, List.getElem?_drop, List.getElem?_eq_getElem hl]
  rfl

theorem part_step {s : ByteArray} {e m : Nat} (h : (e + m = s.size ∧ m ≤ 9) ∨ m = 9) :
    pval (s.data.toList.take (e + 9)) = pval (s.data.toList.take e) * 10 ^ ((s.data.toList.drop e).take m).length + pval ((s.data.toList.drop e).take m) := by
  have hl : s.data.toList.length = s.size := Array.length_toList
  have e1 : s.data.toList.take (e + 9) = s.data.toList.take e ++ (s.data.toList.drop e).take m := by
    rw [List.take_add]
    rcases h with ⟨h, h9⟩ | h
    · rw [List.take_of_length_le (i := 9) (by rw [List.length_drop]; omega), List.take_of_length_le (i := m) (by rw [List.length_drop]; omega)]
    · rw [h]
  rw [e1, pval_append]

end Go.Proofs.YtgjainmfilkjmaaDoor
