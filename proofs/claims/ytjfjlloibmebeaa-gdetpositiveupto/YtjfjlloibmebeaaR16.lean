/- The reference's DivMod. -/
import Derived.Test.YtjfjlloibmebeaaR15
import Derived.Test.YtjfjlloibmebeaaR2aToR6
import Derived.Test.YtjfjlloibmebeaaR9
import Derived.Test.YtjfjlloibmebeaaSxToD8
import Derived.Deep.CutBlock
import Derived.Deep.DeepCutAuto
import Derived.BigQuiet
import Derived.Deep.DeepFit
import Derived.Deep.QuietTactic
namespace Go.Proofs.Ytjfjlloibmebeaa
open Go.RowKit Dig

theorem Rd.blk {w : World} {v : Value} {ds : List Nat} (h : Rd w v ds) : ds ≠ [] → ∀ a n c, v = .slice (some a) n c → a.block < w.heap.size := by
  intro hne a n c e
  obtain ⟨oa, cap, hv, _, _, hc⟩ := h
  rw [hv] at e
  cases e
  obtain ⟨b, off, ho, hcell⟩ := hc.resolve_left hne
  cases ho
  exact Cells.lt hcell hne
theorem Cells.drew {w : World} {oa : Option Addr} {ds : List Nat} (h : Cells w oa ds) : Cells w.drew oa ds := h.below ((Below.refl w.heap.size w).drew) (Nat.le_refl _)
end Go.Proofs.Ytjfjlloibmebeaa

