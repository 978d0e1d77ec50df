/- The reference's Shl answers a row of its own. -/
import Derived.Test.YtjcfhbekpmpbeaaDoorR8
import Derived.Test.YtjcfhbekpmpbeaaDoorZ5ToY1
namespace Go.Proofs.YtjcfhbekpmpbeaaDoor
open Go.RowKit Dig

theorem rtrim_own_n (oa : Option Addr) (n cap : Nat) (ds : List Nat) (w : World) (e : ds.length = n) (hl : n ≤ 10000000000000) (hc : n ≤ cap) (ok : OK ds) (hcell : Cells w oa ds) :
    Calls Tryd.prog 56 #[.slice oa n cap] w fun e w' => ∃ v, e = .returned v ∧ w'.ownsRow w.heap.size 24 1 v (strip ds).length ((strip ds).map dv) ∧ Below w.heap.size w w' := by
  subst e; exact rtrim_own oa cap ds w hl hc ok hcell
theorem own_mono {w : World} {B C s n : Nat} {t : TypeId} {v : Value} {xs : List Value} (h : w.ownsRow B t s v n xs) (k : C ≤ B) : w.ownsRow C t s v n xs := by
  obtain ⟨h1, h2⟩ := h
  refine ⟨h1, ?_⟩
  rcases h2 with h2 | ⟨g, cap, cur, hv, hg, r⟩
  · exact .inl h2
  · exact .inr ⟨g, cap, cur, hv, Nat.le_trans k hg, r⟩

end Go.Proofs.YtjcfhbekpmpbeaaDoor
