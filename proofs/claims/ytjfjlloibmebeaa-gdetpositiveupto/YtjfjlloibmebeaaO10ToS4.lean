/- The reference's Adj. -/
import Derived.Test.YtjfjlloibmebeaaO5ToO9
import Derived.Test.YtjfjlloibmebeaaI5ToDp

namespace Go.Proofs.Ytjfjlloibmebeaa
open Go Go.RowKit Dig
set_option linter.unusedVariables false
section
variable {G : Nat → Nat → Int × Int} {i j n k : Nat}
theorem St.rowv {w0 w : World} {v : Value} {m p K : Nat} {rs : List Rw} {bs : List En} {Ms : List (List (Int × Int))} (hs : St w0 (ls w0.heap.size 39 1 v m (rs.map (·.v)) :: (bs ++ rs.map (Rw.e w0.heap.size))) w) (hd : RD w rs Ms) (hp : p < Ms.length) (hK : Ms[p].length = K) :
    ∃ o c, (rs.map (·.v))[p]? = some (.slice o K c) := by
  obtain ⟨r1, r, r2, rfl, h1, h2, h3⟩ := hd.at' hp
  have h4 : (ls w0.heap.size 39 1 v m ((r1 ++ r :: r2).map (·.v)) :: (bs ++ (r1 ++ r :: r2).map (Rw.e w0.heap.size)))[1 + (bs.length + p)]? = some (r.e w0.heap.size) := by
    rw [Nat.add_comm 1, List.getElem?_cons_succ, List.getElem?_append_right (by omega), show bs.length + p - bs.length = p by omega, List.getElem?_map, List.getElem?_append_right (by omega)]
    simp [h1]
  have L : Lst w w0.heap.size 41 4 r.v r.n r.xs := (hs.1.at h4).1
  obtain ⟨o, c, e⟩ := L.shape
  exact ⟨o, c, by rw [List.map_append, List.map_cons, List.getElem?_append_right (by simp [h1])]; simp [h1, e, h2, hK]⟩
end
section
variable {w : World} {l n k cm : Nat} {om : Option Addr} {M : List (List (Int × Int))}
end
end Go.Proofs.Ytjfjlloibmebeaa


/- GmatAlong: what its calls tell. -/
namespace Go.Proofs.Ytjfjlloibmebeaa
open Go Go.RowKit Dig
set_option linter.unusedVariables false
section
variable {w : World} {l la lb lv n k na nb ca cb c : Nat} {oa ob ov : Option Addr} {A B : List (List (Int × Int))} {V : List (Int × Int)}
end
end Go.Proofs.Ytjfjlloibmebeaa


/- GmatSingle: what its calls tell. -/
namespace Go.Proofs.Ytjfjlloibmebeaa
open Go Go.RowKit Dig
set_option linter.unusedVariables false
section
variable {w : World} {l lb n k c : Nat} {o : Option Addr} {A : List (List (Int × Int))} {vg : Value} {u v : Int}
end
end Go.Proofs.Ytjfjlloibmebeaa


/- Rows of own matrices written anew, number by number; exchanged; replaced. -/
namespace Go.Proofs.Ytjfjlloibmebeaa
open Go Go.RowKit Dig
set_option linter.unusedVariables false
/-- Row p as told, the others as they were. -/
def rowed (F : Nat → Nat → Int × Int) (p : Nat) (g : Nat → Int × Int) : Nat → Nat → Int × Int := fun i j => if i = p then g j else F i j
/-- Rows i and j exchanged. -/
def swr (i j r : Nat) : Nat := if r = i then j else if r = j then i else r
section
variable {F : Nat → Nat → Int × Int} {g : Nat → Int × Int} {i j n k p : Nat}
theorem mkM_setrow (hp : p < n) : (mkM n k F).set p ((List.range k).map g) = mkM n k (rowed F p g) := by
  refine List.ext_getElem (by simp [mkM]) fun i h1 h2 => ?_
  simp only [mkM, List.getElem_set, List.getElem_map, List.getElem_range]
  by_cases e : p = i
  · subst e; simp [rowed]
  · rw [if_neg e]; simp [rowed, Ne.symm e]
theorem mkM_swap (hi : i < n) (hj : j < n) : ((mkM n k F).set i ((List.range k).map (F j))).set j ((List.range k).map (F i)) = mkM n k (fun r => F (swr i j r)) := by
  refine List.ext_getElem (by simp [mkM]) fun r h1 h2 => ?_
  simp only [mkM, List.getElem_set, List.getElem_map, List.getElem_range]
  unfold swr
  by_cases e : j = r
  · subst e
    by_cases e2 : j = i
    · subst e2; simp
    · simp [e2]
  · rw [if_neg e]
    by_cases e2 : i = r
    · subst e2; simp
    · rw [if_neg e2, if_neg (Ne.symm e2), if_neg (Ne.symm e)]
end
theorem RD.set1 {w : World} {r : Rw} {m : List (Int × Int)} (hn : r.n = m.length) (hg : GD w r.xs m) : ∀ {rs : List Rw} {Ms : List (List (Int × Int))} {p : Nat}, RD w rs Ms → RD w (rs.set p r) (Ms.set p m)
  | [], [], p, h => h
  | _ :: _, _ :: _, 0, h => ⟨⟨hn, hg⟩, h.2⟩
  | _ :: _, _ :: _, p + 1, h => ⟨h.1, RD.set1 hn hg h.2⟩
theorem RD.swap {w : World} {rs : List Rw} {n k i j : Nat} {F : Nat → Nat → Int × Int} {vi vj : Value} (hd : RD w rs (mkM n k F)) (hi : i < n) (hj : j < n) (ei : (rs.map (·.v))[i]? = some vi) (ej : (rs.map (·.v))[j]? = some vj) :
    ∃ rs', rs'.length = rs.length ∧ rs'.Perm rs ∧ rs'.map (·.v) = ((rs.map (·.v)).set i vj).set j vi ∧ RD w rs' (mkM n k fun r => F (swr i j r)) := by
  have hl : rs.length = n := by rw [hd.len]; exact len_mkM
  obtain ⟨ri, e1, h1, g1⟩ := hd.get i (by rw [len_mkM]; exact hi)
  obtain ⟨rj, e2, h2, g2⟩ := hd.get j (by rw [len_mkM]; exact hj)
  rw [mkM_row hi] at h1 g1
  rw [mkM_row hj] at h2 g2
  rw [List.getElem?_map, e1] at ei
  rw [List.getElem?_map, e2] at ej
  injection ei with ei
  injection ej with ej
  have q1 : rs[i] = ri := by rw [List.getElem?_eq_getElem (by omega)] at e1; exact Option.some.inj e1
  have q2 : rs[j] = rj := by rw [List.getElem?_eq_getElem (by omega)] at e2; exact Option.some.inj e2
  refine ⟨(rs.set i rj).set j ri, by simp, ?_, by rw [List.map_set, List.map_set, ← ej, ← ei], ?_⟩
  · rw [← q1, ← q2]; exact List.set_set_perm (by omega) (by omega)
  · rw [← mkM_swap hi hj]
    exact RD.set1 h1 g1 (RD.set1 h2 g2 hd)
theorem St.swap {w0 w : World} {v : Value} {n : Nat} {rs rs' : List Rw} {bs : List En} {vs : List Value} (hs : St w0 (ls w0.heap.size 39 1 v n vs :: (bs ++ rs.map (Rw.e w0.heap.size))) w) (hp : rs'.Perm rs) (hv : rs'.map (·.v) = vs) :
    St w0 (ls w0.heap.size 39 1 v n (rs'.map (·.v)) :: (bs ++ rs'.map (Rw.e w0.heap.size))) w := by
  rw [hv]
  exact hs.perm (List.Perm.cons _ (List.Perm.append_left _ (hp.symm.map _)))
end Go.Proofs.Ytjfjlloibmebeaa


/- gmat: AddRow, Swap, Turn. -/
namespace Go.Proofs.Ytjfjlloibmebeaa
open Go Go.RowKit Dig
set_option linter.unusedVariables false
section
variable {w : World} {la lq na ca i j k : Nat} {oa : Option Addr} {A : List (List (Int × Int))} {vq : Value} {u v : Int}
end
end Go.Proofs.Ytjfjlloibmebeaa


/- gmat.Turn; the reference's Vector, Copy. -/
namespace Go.Proofs.Ytjfjlloibmebeaa
open Go Go.RowKit Dig
set_option linter.unusedVariables false
section
variable {w : World} {l la na ca n c i k : Nat} {o oa : Option Addr} {A : List (List (Int × Int))} {ps : List (Int × Int)}
end
end Go.Proofs.Ytjfjlloibmebeaa

