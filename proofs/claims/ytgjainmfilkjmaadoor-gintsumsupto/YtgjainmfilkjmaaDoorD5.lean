/- nat.divide: the quotient's digits into one row, the rest left in the other. -/
import Derived.Test.YtgjainmfilkjmaaDoorD4
import Derived.Test.YtgjainmfilkjmaaDoorSlToW5
import Derived.Test.YtgjainmfilkjmaaDoorShelf
import Derived.Lib.BitFns
import Derived.Lib.ItoaNum
import Derived.Deep.LoopGhost
namespace Go.Proofs.YtgjainmfilkjmaaDoor
open Go.RowKit Dig

/-- Nothing but blocks b and c may have turned. -/
structure Only2 (b c : Nat) (w w' : World) : Prop where
  os : w'.os = w.os
  tape : w'.tape = w.tape
  output : w'.output = w.output
  size : w'.heap.size = w.heap.size
  block : ∀ k, k ≠ b → k ≠ c → w'.heap[k]? = w.heap[k]?
theorem Only2.refl (b c : Nat) (w : World) : Only2 b c w w := ⟨rfl, rfl, rfl, rfl, fun _ _ _ => rfl⟩
theorem Only2.left {b c : Nat} {u v w : World} (h : Only2 b c u v) (k : Only b v w) : Only2 b c u w :=
  ⟨k.os.trans h.os, k.tape.trans h.tape, k.output.trans h.output, k.size.trans h.size, fun i hb hc => (k.block i hb).trans (h.block i hb hc)⟩
theorem Only2.right {b c : Nat} {u v w : World} (h : Only2 b c u v) (k : Only c v w) : Only2 b c u w :=
  ⟨k.os.trans h.os, k.tape.trans h.tape, k.output.trans h.output, k.size.trans h.size, fun i hb hc => (k.block i hc).trans (h.block i hb hc)⟩
theorem Only2.below {b c B : Nat} {u w : World} (h : Only2 b c u w) (hb : B ≤ b) (hc : B ≤ c) : Below B u w :=
  ⟨h.os, h.tape, h.output, by rw [h.size]; exact Nat.le_refl _, fun k hk => h.block k (by omega) (by omega)⟩
end Go.Proofs.YtgjainmfilkjmaaDoor

