/- The reference's takeOff and putBack, over a row of digits of the call's own. -/
import Derived.Test.YtjfjlloibmebeaaR14
import Derived.Test.YtjfjlloibmebeaaD5
import Derived.Test.YtjfjlloibmebeaaR2aToR6
namespace Go.Proofs.Ytjfjlloibmebeaa
open Go.RowKit Dig

/-- v is a row of digits of its own, at block g. -/
def Onw (w : World) (B g cap n : Nat) (xs : List Nat) : Prop := w.ownsRow B 63 1 (.slice (some ⟨g, 0, none⟩) n cap) n (xs.map dv) ∧ OK xs ∧ xs.length = n
theorem Onw.cell {w : World} {B g cap n i : Nat} {xs : List Nat} (h : Onw w B g cap n xs) (hi : i < n) : w.cell? ⟨g, i, none⟩ = some (.int .u32 (xs[i]?.getD 0 : Nat)) := by
  obtain ⟨h1, ok, hl⟩ := h
  rcases own_slice h1 with ⟨h2, h3, _⟩ | ⟨g', cap', hv, _, _, hc⟩
  · omega
  · cases hv
    rw [hc i hi, List.getElem?_map, List.getElem?_eq_getElem (by omega : i < xs.length)]
    rfl
theorem Onw.free {w : World} {B g cap n : Nat} {xs : List Nat} (h : Onw w B g cap n xs) (i : Nat) : w.frozen? ⟨g, i, none⟩ = false := own_frozen h.1 i
theorem Onw.set {w : World} {B g cap n : Nat} {xs : List Nat} (h : Onw w B g cap n xs) {i d : Nat} (hi : i < n) (hd : d < 4294967296) : Onw (w.setCell ⟨g, i, none⟩ (.int .u32 (d : Int))) B g cap n (xs.set i d) := by
  refine ⟨?_, h.2.1.set i hd, by simpa using h.2.2⟩
  have := own_setCell h.1 i hi (.int .u32 (d : Int))
  rw [List.map_set]; exact this
theorem Onw.le {w : World} {B g cap n : Nat} {xs : List Nat} (h : Onw w B g cap n xs) : n ≤ cap := by
  rcases h.1.2 with ⟨h1, _⟩ | ⟨g', cap', cur, hv, _, _, h2, _⟩
  · cases h1
  · cases hv; exact h2
theorem Onw.blk {w : World} {B g cap n : Nat} {xs : List Nat} (h : Onw w B g cap n xs) : B ≤ g ∧ g < w.heap.size := by
  rcases h.1.2 with ⟨h1, _⟩ | ⟨g', cap', cur, hv, hg, hh, _⟩
  · cases h1
  · cases hv
    refine ⟨hg, ?_⟩
    rcases Nat.lt_or_ge g w.heap.size with hb | hb
    · exact hb
    · rw [Array.getElem?_eq_none hb] at hh; cases hh
theorem Onw.only {w w' : World} {B b g cap n : Nat} {xs : List Nat} (h : Onw w B g cap n xs) (ho : Only b w w') (hb : g ≠ b) : Onw w' B g cap n xs := by
  refine ⟨⟨h.1.1, ?_⟩, h.2⟩
  rcases h.1.2 with ⟨h1, _⟩ | ⟨g', cap', cur, hv, hg, hh, r⟩
  · cases h1
  · cases hv
    exact .inr ⟨g, cap, cur, rfl, hg, by rw [ho.block g hb]; exact hh, r⟩
theorem Onw.below {w w' : World} {B C g cap n : Nat} {xs : List Nat} (h : Onw w B g cap n xs) (hb : Below C w w') (hg : g < C) : Onw w' B g cap n xs := by
  refine ⟨⟨h.1.1, ?_⟩, h.2⟩
  rcases h.1.2 with ⟨h1, _⟩ | ⟨g', cap', cur, hv, hg', hh, r⟩
  · cases h1
  · cases hv
    exact .inr ⟨g, cap, cur, rfl, hg', by rw [hb.block g hg]; exact hh, r⟩
theorem Onw.cells {w : World} {B g cap n : Nat} {xs : List Nat} (h : Onw w B g cap n xs) : Cells w (some ⟨g, 0, none⟩) xs := by
  refine .inr ⟨g, 0, rfl, fun i hi => ?_⟩
  rw [Nat.zero_add]
  exact h.cell (by rw [← h.2.2]; exact hi)
end Go.Proofs.Ytjfjlloibmebeaa

