/- Small laws of stripped digits, of a slice's end, of Norm at a length written otherwise. -/
import Derived.Test.YtgjainmfilkjmaaDoorSlToW5
import Derived.Test.YtgjainmfilkjmaaDoorD5
import Derived.OwnWalk
import Derived.Test.YtgjainmfilkjmaaDoorR2aToR6

namespace Go.Proofs.YtgjainmfilkjmaaDoor
open Go.RowKit Dig

theorem Cells.drop {w : World} {b off : Nat} {ds : List Nat} (h : Cells w (some ⟨b, off, none⟩) ds) (k : Nat) : Cells w (some ⟨b, off + k, none⟩) (ds.drop k) := by
  by_cases hne : ds = []
  · subst hne; simp; exact .inl rfl
  · obtain ⟨b', off', ho, hc⟩ := h.resolve_left hne
    cases ho
    refine .inr ⟨b, off + k, rfl, fun i hi => ?_⟩
    rw [List.length_drop] at hi
    rw [Nat.add_assoc, hc (k + i) (by omega), List.getElem?_drop]
end Go.Proofs.YtgjainmfilkjmaaDoor

/- nat.DivMod: quotient and rest, canonical, each in memory of its own. -/
namespace Go.Proofs.YtgjainmfilkjmaaDoor
open Go.RowKit Dig

theorem Own.cut {w : World} {B b n : Nat} {xs : List Nat} (hB : B ≤ b) (hr : Row w b xs) (hn : n ≤ xs.length) : Own w B (.slice (some ⟨b, 0, none⟩) (Dig.strip (xs.take n)).length (Dig.strip (xs.take n)).length) (Dig.strip (xs.take n)) := by
  have h1 := strip_length_le (xs.take n)
  have h2 : (xs.take n).length = n := by simp; omega
  have := Own.row (off := 0) (n := (Dig.strip (xs.take n)).length) (cap := (Dig.strip (xs.take n)).length) hB hr (Nat.le_refl _) (by omega)
  have e : ((xs.drop 0).take (Dig.strip (xs.take n)).length) = Dig.strip (xs.take n) := by
    conv => rhs; rw [strip_take]
    rw [List.drop_zero, List.take_take, Nat.min_eq_left (by omega)]
  rwa [e] at this
end Go.Proofs.YtgjainmfilkjmaaDoor

/- nat.Gcd: Euclid by two rows that take turns. -/
namespace Go.Proofs.YtgjainmfilkjmaaDoor
open Go.RowKit Dig

end Go.Proofs.YtgjainmfilkjmaaDoor

/- DivMod and Gcd over whatever slice reads as given digits. -/
namespace Go.Proofs.YtgjainmfilkjmaaDoor
open Go.RowKit Dig

theorem Rd.nil (w : World) : Rd w (.slice none 0 0) [] := ⟨none, 0, rfl, Nat.le_refl _, OK.nil, .inl rfl⟩
end Go.Proofs.YtgjainmfilkjmaaDoor

