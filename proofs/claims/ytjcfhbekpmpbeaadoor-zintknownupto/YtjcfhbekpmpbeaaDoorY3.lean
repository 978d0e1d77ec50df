/- zint's reference: Add, Sub, Twice. -/
import Derived.Test.YtjcfhbekpmpbeaaDoorY2
namespace Go.Proofs.YtjcfhbekpmpbeaaDoor
open Go.RowKit Dig

theorem zadd_dig_length (xs ys : List Nat) (okx : OK xs) (oky : OK ys) : (dig (val xs + val ys)).length ≤ xs.length + ys.length + 1 := by
  refine dig_length_le ?_
  have h1 := Nat.lt_of_lt_of_le (val_lt okx) (pw_mono (Nat.le_add_right xs.length ys.length))
  have h2 := Nat.lt_of_lt_of_le (val_lt oky) (pw_mono (Nat.le_add_left ys.length xs.length))
  simp only [pw]; omega
theorem zsub_dig_length (xs : List Nat) (n : Nat) (okx : OK xs) : (dig (val xs - n)).length ≤ xs.length :=
  dig_length_le (by have := val_lt okx; omega)

theorem ztrim_rr {w : World} {va : Value} {xs : List Nat} (hx : Rd w va xs) (hl : xs.length ≤ 1000000000) :
    Calls Tryd.prog 56 #[va] w fun e w' => ∃ v, e = .returned v ∧ Rd w' v (dig (val xs)) ∧ Below w.heap.size w w' :=
  (rtrim_rn hx hl).mono fun _ _ ⟨v, h1, h2, h3⟩ => ⟨v, h1, h2.1, h3⟩

end Go.Proofs.YtjcfhbekpmpbeaaDoor
