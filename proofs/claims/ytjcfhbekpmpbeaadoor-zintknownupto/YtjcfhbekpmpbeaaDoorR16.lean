/- The reference's DivMod. -/
import Derived.Test.YtjcfhbekpmpbeaaDoorR15
import Derived.Test.YtjcfhbekpmpbeaaDoorR2aToR6
import Derived.Test.YtjcfhbekpmpbeaaDoorR9
import Derived.Test.YtjcfhbekpmpbeaaDoorSxToD8
import Derived.Deep.CutBlock
import Derived.Deep.DeepCutAuto
import Derived.BigQuiet
import Derived.Deep.DeepFit
import Derived.Deep.QuietTactic
namespace Go.Proofs.YtjcfhbekpmpbeaaDoor
open Go.RowKit Dig

theorem Rd.blk {w : World} {v : Value} {ds : List Nat} (h : Rd w v ds) : ds ≠ [] → ∀ a n c, v = .slice (some a) n c → a.block < w.heap.size := by
  intro hne a n c e
  obtain ⟨oa, cap, hv, _, _, hc⟩ := h
  rw [hv] at e
  cases e
  obtain ⟨b, off, ho, hcell⟩ := hc.resolve_left hne
  cases ho
  exact Cells.lt hcell hne

theorem seg_top3 {xs : List Nat} {off i : Nat} (ok : OK xs) (h : off + (i + 3) ≤ xs.length) :
    ∃ lw, lw < pw i ∧ val (seg xs off (i + 3)) = ((xs[off + i + 2]?.getD 0 * 4294967296 + xs[off + i + 1]?.getD 0) * 4294967296 + xs[off + i]?.getD 0) * pw i + lw := by
  refine ⟨val (seg xs off i), seg_lt ok off i (by omega), ?_⟩
  rw [seg_succ (i := i + 2) (by omega), seg_succ (i := i + 1) (by omega), seg_succ (i := i) (by omega)]
  simp only [pw, ← Nat.add_assoc]
  generalize pw i = P
  rw [Nat.add_mul, Nat.add_mul, Nat.add_mul]
  have e1 : ∀ z, 4294967296 * (4294967296 * P) * z = z * 4294967296 * 4294967296 * P := fun z => by
    rw [Nat.mul_comm, ← Nat.mul_assoc, ← Nat.mul_assoc]
  have e2 : ∀ z, 4294967296 * P * z = z * 4294967296 * P := fun z => by rw [Nat.mul_comm, ← Nat.mul_assoc]
  rw [e1, e2, Nat.mul_comm P]
  omega

theorem Cells.drew {w : World} {oa : Option Addr} {ds : List Nat} (h : Cells w oa ds) : Cells w.drew oa ds := h.below ((Below.refl w.heap.size w).drew) (Nat.le_refl _)

theorem Only.drewN {b : Nat} {u w : World} (h : Only b u w) (n : Nat) : Only b u (w.drewN n) := ⟨h.os, h.tape, h.output, h.size, h.block⟩

/-- What putBack leaves where one was too much. -/
theorem put_fin {W V q r r2 P c2 : Nat} (hV : 0 < V) (hVP : V < P) (hr2 : r2 < P) (h1 : r + q * V = W + P * 1) (h2 : r2 + P * c2 = r + V) (hq : q = W / V + 1) : r2 + (q - 1) * V = W ∧ r2 < V := by
  have h3 := Nat.div_add_mod W V
  have h4 := Nat.mod_lt W hV
  subst hq
  rw [Nat.add_sub_cancel]
  rw [Nat.add_mul, Nat.mul_comm (W / V)] at h1
  rw [Nat.mul_comm (W / V)]
  generalize V * (W / V) = z at *
  generalize W % V = y at *
  rcases Nat.lt_or_ge c2 1 with hc | hc
  · have : c2 = 0 := by omega
    subst this
    omega
  · rcases Nat.lt_or_ge 1 c2 with hc2 | hc2
    · have := Nat.mul_le_mul_left P hc2
      omega
    · have : c2 = 1 := by omega
      subst this
      omega

theorem guess_less {q r f H Q : Nat} (h : q * f + r = H) (hQ : Q < q) : (q - 1) * f + (r + f) = H ∧ Q ≤ q - 1 := by
  obtain ⟨q', rfl⟩ : ∃ q', q = q' + 1 := ⟨q - 1, by omega⟩
  rw [Nat.add_sub_cancel]
  rw [Nat.add_mul] at h
  omega

theorem seg_top2 {xs : List Nat} {off i : Nat} (ok : OK xs) (h : off + (i + 2) ≤ xs.length) :
    ∃ lw, lw < pw i ∧ val (seg xs off (i + 2)) = (xs[off + i + 1]?.getD 0 * 4294967296 + xs[off + i]?.getD 0) * pw i + lw := by
  refine ⟨val (seg xs off i), seg_lt ok off i (by omega), ?_⟩
  rw [seg_succ (i := i + 1) (by omega), seg_succ (i := i) (by omega)]
  simp only [pw, ← Nat.add_assoc]
  generalize pw i = P
  rw [Nat.add_mul]
  have e2 : ∀ z, 4294967296 * P * z = z * 4294967296 * P := fun z => by rw [Nat.mul_comm, ← Nat.mul_assoc]
  rw [e2, Nat.mul_comm P]
  omega

end Go.Proofs.YtjcfhbekpmpbeaaDoor
