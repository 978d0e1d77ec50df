/- The reference's New. -/
import Derived.Test.YtjfjlloibmebeaaE1ToO3

namespace Go.Proofs.Ytjfjlloibmebeaa
open Go Go.RowKit Dig
set_option linter.unusedVariables false
section
variable {w : World} {r k : Nat}
end
end Go.Proofs.Ytjfjlloibmebeaa


/- A row of an own matrix in front of the state, and back; a number of an own list set. -/
namespace Go.Proofs.Ytjfjlloibmebeaa
open Go Go.RowKit Dig
set_option linter.unusedVariables false
theorem GD.put {w : World} {n1 n2 : Bool} {o1 o2 : Option Addr} {k1 c1 k2 c2 : Nat} {x y : Int} (h1 : ZC w (.agg #[.bool n1, .slice o1 k1 c1]) x) (h2 : ZC w (.agg #[.bool n2, .slice o2 k2 c2]) y) :
    ∀ {xs : List Value} {ps : List (Int × Int)} {q : Nat}, GD w xs ps → q < ps.length →
    GD w (setL xs [(q * 4, .bool n1), (q * 4 + 1, .slice o1 k1 c1), (q * 4 + 2, .bool n2), (q * 4 + 3, .slice o2 k2 c2)]) (ps.set q (x, y)) := by
  intro xs
  induction hn : xs.length using Nat.strongRecOn generalizing xs with
  | _ n ih =>
    intro ps q hd hq
    have hl := hd.len
    match xs, ps, hd with
    | a :: b :: c :: d :: xs, p :: ps, hd =>
      cases q with
      | zero => exact ⟨.mk' h1 h2, hd.2⟩
      | succ q =>
        have := ih xs.length (by rw [← hn]; simp only [List.length_cons]; omega) rfl hd.2 (q := q) (by simpa using hq)
        simp only [setL, List.set_cons_succ, show (q + 1) * 4 = q * 4 + 1 + 1 + 1 + 1 by omega, List.set_cons_succ, show q * 4 + 1 + 1 + 1 + 1 + 1 = (q * 4 + 1) + 1 + 1 + 1 + 1 by omega, show q * 4 + 1 + 1 + 1 + 1 + 2 = (q * 4 + 2) + 1 + 1 + 1 + 1 by omega, show q * 4 + 1 + 1 + 1 + 1 + 3 = (q * 4 + 3) + 1 + 1 + 1 + 1 by omega]
        exact ⟨hd.1, this⟩
    | [], [], _ => exact absurd hq (Nat.not_lt_zero _)
theorem RD.at' {w : World} : ∀ {rs : List Rw} {Ms : List (List (Int × Int))} {p : Nat}, RD w rs Ms → (hp : p < Ms.length) → ∃ r1 r r2, rs = r1 ++ r :: r2 ∧ r1.length = p ∧ r.n = Ms[p].length ∧ GD w r.xs Ms[p]
  | [], [], p, _, hp => absurd hp (Nat.not_lt_zero _)
  | r :: rs, m :: Ms, 0, h, _ => ⟨[], r, rs, rfl, rfl, h.1⟩
  | r :: rs, m :: Ms, p + 1, h, hp => by
    obtain ⟨r1, r', r2, rfl, h1, h2⟩ := RD.at' (p := p) h.2 (by simpa using hp)
    exact ⟨r :: r1, r', r2, rfl, by simp [h1], by simpa using h2⟩
theorem RD.set' {w : World} {v : Value} {n : Nat} {xs : List Value} {m : List (Int × Int)} {r : Rw} {r2 : List Rw} (hn : n = m.length) (hg : GD w xs m) : ∀ {r1 : List Rw} {Ms : List (List (Int × Int))} {p : Nat}, RD w (r1 ++ r :: r2) Ms → r1.length = p → RD w (r1 ++ (⟨v, n, xs⟩ : Rw) :: r2) (Ms.set p m)
  | [], _ :: Ms, p, h, hp => by subst hp; exact ⟨⟨hn, hg⟩, h.2⟩
  | a :: r1, b :: Ms, p, h, hp => by subst hp; exact ⟨h.1, RD.set' hn hg h.2 rfl⟩
  | [], [], p, h, _ => h.elim
  | _ :: _, [], p, h, _ => h.elim
section
variable {w0 w : World} {v : Value} {n p K : Nat} {rs r1 r2 : List Rw} {bs : List En} {Ms : List (List (Int × Int))}
theorem St.row (hs : St w0 (ls w0.heap.size 39 1 v n (rs.map (·.v)) :: (bs ++ rs.map (Rw.e w0.heap.size))) w) (hd : RD w rs Ms) (hp : p < Ms.length) (hK : Ms[p].length = K) (h0 : 0 < K) :
    ∃ r1 g c xs r2, rs = r1 ++ (⟨.slice (some ⟨g, 0, none⟩) K c, K, xs⟩ : Rw) :: r2 ∧ r1.length = p ∧ (rs.map (·.v))[p]? = some (.slice (some ⟨g, 0, none⟩) K c) ∧ GD w xs Ms[p] ∧
      St w0 (ls w0.heap.size 41 4 (.slice (some ⟨g, 0, none⟩) K c) K xs :: ls w0.heap.size 39 1 v n (rs.map (·.v)) :: (bs ++ (r1 ++ r2).map (Rw.e w0.heap.size))) w := by
  obtain ⟨r1, r, r2, rfl, h1, h2, h3⟩ := hd.at' hp
  obtain ⟨rv, rn, xs⟩ := r
  simp only at h2 h3
  rw [hK] at h2
  subst h2
  have hs2 := hs.perm (cs := Rw.e w0.heap.size ⟨rv, rn, xs⟩ :: ls w0.heap.size 39 1 v n ((r1 ++ (⟨rv, rn, xs⟩ : Rw) :: r2).map (·.v)) :: (bs ++ (r1 ++ r2).map (Rw.e w0.heap.size))) (by
    refine (List.Perm.cons _ ?_).trans (List.Perm.swap _ _ _)
    rw [List.map_append, List.map_cons, List.map_append, ← List.append_assoc, ← List.append_assoc]
    exact List.perm_middle)
  have L : Lst w w0.heap.size 41 4 rv rn xs := hs2.1.1.1
  obtain ⟨o, c, rfl⟩ := L.shape
  obtain ⟨g, cur, rfl, _, _⟩ := L.box h0
  exact ⟨r1, g, c, xs, r2, rfl, h1, by rw [List.map_append, List.map_cons, List.getElem?_append_right (by simp [h1])]; simp [h1], h3, hs2⟩
theorem St.unrow {x : Value} {xs xs' : List Value} (hs : St w0 (ls w0.heap.size 41 4 x K xs' :: ls w0.heap.size 39 1 v n ((r1 ++ (⟨x, K, xs⟩ : Rw) :: r2).map (·.v)) :: (bs ++ (r1 ++ r2).map (Rw.e w0.heap.size))) w) :
    St w0 (ls w0.heap.size 39 1 v n ((r1 ++ (⟨x, K, xs'⟩ : Rw) :: r2).map (·.v)) :: (bs ++ (r1 ++ (⟨x, K, xs'⟩ : Rw) :: r2).map (Rw.e w0.heap.size))) w := by
  have e : (r1 ++ (⟨x, K, xs⟩ : Rw) :: r2).map (·.v) = (r1 ++ (⟨x, K, xs'⟩ : Rw) :: r2).map (·.v) := by simp
  rw [e] at hs
  refine hs.perm ?_
  refine (List.Perm.swap _ _ _).trans (List.Perm.cons _ ?_)
  rw [List.map_append, List.map_append, List.map_cons, ← List.append_assoc, ← List.append_assoc]
  exact List.perm_middle.symm
end
/-- A matrix's number at one place, and elsewhere as it was. -/
def upd (F : Nat → Nat → Int × Int) (p q : Nat) (x : Int × Int) : Nat → Nat → Int × Int := fun i j => if i = p ∧ j = q then x else F i j
theorem mkM_set {R K p q : Nat} {F : Nat → Nat → Int × Int} {x : Int × Int} (hp : p < R) : (mkM R K F).set p (((List.range K).map (F p)).set q x) = mkM R K (upd F p q x) := by
  refine List.ext_getElem (by simp [mkM]) fun i h1 h2 => ?_
  have hi : i < R := by simpa [mkM] using h2
  refine List.ext_getElem (by simp only [mkM, List.getElem_set, List.getElem_map, List.getElem_range]; split <;> simp) fun j h3 h4 => ?_
  simp only [mkM, List.getElem_set, List.getElem_map, List.getElem_range, upd]
  have hj : j < K := by simpa [mkM] using h4
  by_cases e : p = i
  · subst e
    by_cases e2 : q = j
    · subst e2; simp
    · simp [e2, Ne.symm e2]
  · simp [e, Ne.symm e]
theorem mkM_row {R K p : Nat} {F : Nat → Nat → Int × Int} (hp : p < R) : (mkM R K F)[p]'(by rw [len_mkM]; exact hp) = (List.range K).map (F p) := by simp [mkM]
end Go.Proofs.Ytjfjlloibmebeaa


/- gmat.copied. -/
namespace Go.Proofs.Ytjfjlloibmebeaa
open Go Go.RowKit Dig
set_option linter.unusedVariables false
section
variable {w : World} {la na np ca cp i j pa : Nat} {oa : Option Addr} {A : List (List (Int × Int))} {zs : List Int}
end
end Go.Proofs.Ytjfjlloibmebeaa


/- The reference's Scale. -/
namespace Go.Proofs.Ytjfjlloibmebeaa
open Go Go.RowKit Dig
set_option linter.unusedVariables false
section
variable {G : Nat → Nat → Int × Int} {i j n k : Nat}
end
section
variable {w : World} {l r n k cm : Nat} {om : Option Addr} {M : List (List (Int × Int))} {vg : Value} {u v : Int}
end
end Go.Proofs.Ytjfjlloibmebeaa


/- The reference's Gram. -/
namespace Go.Proofs.Ytjfjlloibmebeaa
open Go Go.RowKit Dig
set_option linter.unusedVariables false
section
variable {w : World} {l n k cm : Nat} {om : Option Addr} {M : List (List (Int × Int))}
end
end Go.Proofs.Ytjfjlloibmebeaa


/- The reference's Trans. -/
namespace Go.Proofs.Ytjfjlloibmebeaa
open Go Go.RowKit Dig
set_option linter.unusedVariables false
section
variable {G F : Nat → Nat → Int × Int} {i j n k p q : Nat}
/-- A number put in its place. -/
theorem RD.upd {w : World} {r1 r2 : List Rw} {r : Rw} {x : Value} {xs : List Value} {n1 n2 : Bool} {o1 o2 : Option Addr} {k1 c1 k2 c2 : Nat} {y : Int × Int} (hd : RD w (r1 ++ r :: r2) (mkM n k F)) (hr : r1.length = p) (hp : p < n) (hq : q < k)
    (hx : GD w xs ((mkM n k F)[p]'(by rw [len_mkM]; exact hp))) (h1 : ZC w (.agg #[.bool n1, .slice o1 k1 c1]) y.1) (h2 : ZC w (.agg #[.bool n2, .slice o2 k2 c2]) y.2) :
    RD w (r1 ++ (⟨x, k, setL xs [(q * 4, .bool n1), (q * 4 + 1, .slice o1 k1 c1), (q * 4 + 2, .bool n2), (q * 4 + 3, .slice o2 k2 c2)]⟩ : Rw) :: r2) (mkM n k (Go.Proofs.Ytjfjlloibmebeaa.upd F p q y)) := by
  rw [mkM_row hp] at hx
  have := RD.set' (v := x) (n := k) (by simp) (GD.put h1 h2 hx (q := q) (by simpa using hq)) hd hr
  rw [mkM_set hp, show ((y.1, y.2) : Int × Int) = y from rfl] at this
  exact this
end
section
variable {w : World} {l n k cm : Nat} {om : Option Addr} {M : List (List (Int × Int))}
end
end Go.Proofs.Ytjfjlloibmebeaa

