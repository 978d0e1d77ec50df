/- Small laws of stripped digits, of a slice's end, of Norm at a length written otherwise. -/
import Derived.Test.YtjcfhbekpmpbeaaDoorW1
namespace Go.Proofs.YtjcfhbekpmpbeaaDoor
open Go.RowKit Dig

theorem strip_strip' (ds : List Nat) : strip (strip ds) = strip ds := by
  induction ds with
  | nil => rfl
  | cons d ds ih =>
    by_cases h : strip ds = [] ∧ d = 0
    · simp [strip, h]
    · simp [strip, h, ih]

theorem strip_drop {X : List Nat} (h : strip X = X) (k : Nat) : strip (X.drop k) = X.drop k := by
  induction k generalizing X with
  | zero => simpa using h
  | succ k ih =>
    match X with
    | [] => rfl
    | d :: ds =>
      simp only [List.drop_succ_cons]
      refine ih ?_
      simp only [strip] at h
      split at h
      · cases h
      · simpa using h

theorem Cells.drop {w : World} {b off : Nat} {ds : List Nat} (h : Cells w (some ⟨b, off, none⟩) ds) (k : Nat) : Cells w (some ⟨b, off + k, none⟩) (ds.drop k) := by
  by_cases hne : ds = []
  · subst hne; simp; exact .inl rfl
  · obtain ⟨b', off', ho, hc⟩ := h.resolve_left hne
    cases ho
    refine .inr ⟨b, off + k, rfl, fun i hi => ?_⟩
    rw [List.length_drop] at hi
    rw [Nat.add_assoc, hc (k + i) (by omega), List.getElem?_drop]

theorem norm_n (oa : Option Addr) (n cap : Nat) (ds : List Nat) (w : World) (e : ds.length = n) (hl : n ≤ 1099511627776) (hc : n ≤ cap) (ok : OK ds) (hcell : Cells w oa ds) :
    Calls Tryd.prog 7 #[.slice oa n cap] w fun e w' => e = .returned (.slice (some ⟨w.heap.size, 0, none⟩) (strip ds).length (strip ds).length) ∧ Row w' w.heap.size (strip ds) ∧ Below w.heap.size w w' := by
  subst e; exact norm_any oa cap ds w hl hc ok hcell
end Go.Proofs.YtjcfhbekpmpbeaaDoor
