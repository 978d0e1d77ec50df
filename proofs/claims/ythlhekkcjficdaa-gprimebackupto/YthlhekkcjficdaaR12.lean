/- The reference's Text answers the decimal digits. -/
import Derived.Maps.AppendAt
import Derived.Test.YthlhekkcjficdaaW8
import Derived.Test.YthlhekkcjficdaaR9
namespace Go.Proofs.Ythlhekkcjficdaa
open Go.RowKit Dig Go.Lib

/-- v lies in another block than the row that grows. -/
def Apart (v : Value) (ob : Option Nat) : Prop := ∀ a n c, v = .slice (some a) n c → ob ≠ some a.block
theorem Rd.grown {w w' : World} {v : Value} {ds : List Nat} {ob : Option Nat} (h : Rd w v ds) (hg : w.grownBy w' ob) (ho : Apart v ob) : Rd w' v ds := by
  obtain ⟨oa, cap, rfl, hc, ok, hcell⟩ := h
  refine ⟨oa, cap, rfl, hc, ok, ?_⟩
  rcases hcell with h | ⟨b, off, rfl, hcell⟩
  · exact .inl h
  · refine .inr ⟨b, off, rfl, fun i hi => ?_⟩
    have h1 := hcell i hi
    have hne := ho _ _ _ rfl
    rw [← h1]
    have hlt : b < w.heap.size := by
      rcases Nat.lt_or_ge b w.heap.size with h | h
      · exact h
      · simp [World.cell?, Array.getElem?_eq_none h] at h1
    simp only [World.cell?]
    rw [hg.block b hlt (fun e => hne e.symm)]
theorem Rd.lt {w : World} {v : Value} {g : Nat} (h : Rd w v (dig g)) (hg : 0 < g) : ∀ a n c, v = .slice (some a) n c → a.block < w.heap.size := by
  obtain ⟨oa, cap, rfl, hc, ok, hcell⟩ := h
  intro a n c e
  rcases hcell with h | ⟨b, off, rfl, hcell⟩
  · have := val_dig g; rw [h] at this; simp [val] at this; omega
  · cases e
    have hl : 0 < (dig g).length := by
      rcases Nat.eq_zero_or_pos (dig g).length with h | h
      · have e := List.length_eq_zero_iff.1 h
        have := val_dig g; rw [e] at this; simp [val] at this; omega
      · exact h
    have h1 := hcell 0 hl
    rcases Nat.lt_or_ge b w.heap.size with h | h
    · exact h
    · simp [World.cell?, Array.getElem?_eq_none h] at h1
theorem dig_pos {g : Nat} (hg : 0 < g) : 0 < (dig g).length := by
  rcases Nat.eq_zero_or_pos (dig g).length with h | h
  · have e := List.length_eq_zero_iff.1 h
    have := val_dig g; rw [e] at this; simp [val] at this; omega
  · exact h
end Go.Proofs.Ythlhekkcjficdaa

