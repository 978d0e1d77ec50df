/- Stores in a region that draws, beside lists that are read: what else is asked may lean on what was left alone. -/
import Derived.Test.YtnkimagnmnocdaaGreatWkToSo6

namespace Go.Proofs.YtnkimagnmnocdaaGreat
open Go Go.RowKit Dig
set_option linter.unusedVariables false
section
variable {P : Program} {o : Oper} {a : Act} {w w0 : World} {B : Exit → Act → World → Prop} {E : World → Prop} {G : Act → World → Prop} {bs bs' : List En}
theorem Stp.s4o {b : Nat} {d0 d1 d2 d3 c0 c1 c2 c3 : Value} {ty : TypeId} {a' : Act} (x : Bs w b #[d0, d1, d2, d3] ty) (hu : ∀ w', Bs w' b #[c0, c1, c2, c3] ty → Only b w w' → St w0 bs' w')
    (h : ∀ w', St w0 bs' w' → NoD w b → Only b w w' → G a' w')
    (h1 : w.cell? ⟨b, 0, none⟩ = some d0 → w.cell? ⟨b, 1, none⟩ = some d1 → w.cell? ⟨b, 2, none⟩ = some d2 → w.cell? ⟨b, 3, none⟩ = some d3 → w.frozen? ⟨b, 0, none⟩ = false → w.frozen? ⟨b, 1, none⟩ = false → w.frozen? ⟨b, 2, none⟩ = false → w.frozen? ⟨b, 3, none⟩ = false → ∀ K : Act → World → Prop, K a' ((((w.setCell ⟨b, 0, none⟩ c0).setCell ⟨b, 1, none⟩ c1).setCell ⟨b, 2, none⟩ c2).setCell ⟨b, 3, none⟩ c3) → o.wp P a w K B := by intro d0 d1 d2 d3 f0 f1 f2 f3 K hK; go_big_op; exact hK)
    (e : ∀ w', St w0 bs' w' → Only b w w' → E w') (hd : a'.defers = a.defers := by rfl) (hn : (#[d0, d1, d2, d3] : Array Value).toList.all nd = true := by rfl) (ht : (ty == 147) = false := by rfl) : Stp P o a w B E G := fun K hK => by
  obtain ⟨v, rfl, h2, h3⟩ := x.set4 c0 c1 c2 c3
  exact h1 (x.cell 0 rfl) (x.cell 1 rfl) (x.cell 2 rfl) (x.cell 3 rfl) (x.free 0) (x.free 1) (x.free 2) (x.free 3) K (hK _ _ hd (e _ (hu _ h2 h3) h3) (h _ (hu _ h2 h3) (x.nod hn ht) h3))
end
end Go.Proofs.YtnkimagnmnocdaaGreat


/- Vectors and matrices of Gaussian integers: read where they lie; own lists written in place; own matrices as entries of the state. -/
namespace Go.Proofs.YtnkimagnmnocdaaGreat
open Go Go.RowKit Dig
set_option linter.unusedVariables false

/-- One number's cells, at place j of a block. -/
def El (R : World → Value → Int → Prop) (w : World) (cur : Array Value) (j : Nat) (p : Int × Int) : Prop :=
  ∃ n1 o1 k1 c1 n2 o2 k2 c2, cur[j]? = some (.bool n1) ∧ cur[j + 1]? = some (.slice o1 k1 c1) ∧ cur[j + 2]? = some (.bool n2) ∧ cur[j + 3]? = some (.slice o2 k2 c2) ∧ R w (.agg #[.bool n1, .slice o1 k1 c1]) p.1 ∧ R w (.agg #[.bool n2, .slice o2 k2 c2]) p.2
abbrev RN (l : Nat) (w : World) (v : Value) (x : Int) : Prop := ZN w v x l
abbrev RC (w : World) (v : Value) (x : Int) : Prop := ZC w v x
def Els (R : World → Value → Int → Prop) (w : World) (cur : Array Value) (off : Nat) (ps : List (Int × Int)) : Prop := ∀ i (hi : i < ps.length), El R w cur (off + i * 4) ps[i]
/-- A vector that can be read. -/
def SV (R : World → Value → Int → Prop) (w : World) (o : Option Addr) (ps : List (Int × Int)) : Prop :=
  ps = [] ∨ ∃ g off cur ty fz, o = some ⟨g, off, none⟩ ∧ Bs w g cur ty fz ∧ Els R w cur off ps
def Rws (R : World → Value → Int → Prop) (w : World) (cur : Array Value) (off : Nat) (Ms : List (List (Int × Int))) : Prop :=
  ∀ i (hi : i < Ms.length), ∃ o c, cur[off + i]? = some (.slice o Ms[i].length c) ∧ SV R w o Ms[i]
/-- A matrix that can be read. -/
def MV (R : World → Value → Int → Prop) (w : World) (o : Option Addr) (Ms : List (List (Int × Int))) : Prop :=
  Ms = [] ∨ ∃ g off cur ty fz, o = some ⟨g, off, none⟩ ∧ Bs w g cur ty fz ∧ Rws R w cur off Ms
abbrev SN (l : Nat) := SV (RN l)
abbrev SC := SV RC
abbrev MN (l : Nat) := MV (RN l)
abbrev MC := MV RC
/-- It is read so wherever the digits lie as they lay. -/
def Stab (R : World → Value → Int → Prop) : Prop := ∀ w w' v x, R w v x → Kp w w' → R w' v x
theorem stab_n {l : Nat} : Stab (RN l) := fun _ _ _ _ h k => ZN.k h k
theorem stab_c : Stab RC := fun _ _ _ _ h k => ZC.k h k
section
variable {R : World → Value → Int → Prop} {w w' : World} {cur : Array Value} {j off : Nat} {p : Int × Int} {o : Option Addr} {ps : List (Int × Int)} {Ms : List (List (Int × Int))}
theorem El.k (hR : Stab R) (h : El R w cur j p) (k : Kp w w') : El R w' cur j p := by
  obtain ⟨n1, o1, k1, c1, n2, o2, k2, c2, e1, e2, e3, e4, h1, h2⟩ := h
  exact ⟨n1, o1, k1, c1, n2, o2, k2, c2, e1, e2, e3, e4, hR _ _ _ _ h1 k, hR _ _ _ _ h2 k⟩
theorem Els.k (hR : Stab R) (h : Els R w cur off ps) (k : Kp w w') : Els R w' cur off ps := fun i hi => (h i hi).k hR k
theorem SV.bl (hR : Stab R) (h : SV R w o ps) (hb : Below w.heap.size w w') : SV R w' o ps := by
  rcases h with h | ⟨g, off, cur, ty, fz, rfl, x, d⟩
  · exact .inl h
  · exact .inr ⟨g, off, cur, ty, fz, rfl, x.bl hb, d.k hR (kb hb)⟩
theorem MV.bl (hR : Stab R) (h : MV R w o Ms) (hb : Below w.heap.size w w') : MV R w' o Ms := by
  rcases h with h | ⟨g, off, cur, ty, fz, rfl, x, d⟩
  · exact .inl h
  · refine .inr ⟨g, off, cur, ty, fz, rfl, x.bl hb, fun i hi => ?_⟩
    obtain ⟨o, c, e, hs⟩ := d i hi
    exact ⟨o, c, e, hs.bl hR hb⟩
theorem SV.box (h : SV R w o ps) (h0 : 0 < ps.length) : ∃ g off cur ty fz, o = some ⟨g, off, none⟩ ∧ Bs w g cur ty fz ∧ Els R w cur off ps := h.resolve_left fun e => by simp [e] at h0
theorem MV.box (h : MV R w o Ms) (h0 : 0 < Ms.length) : ∃ g off cur ty fz, o = some ⟨g, off, none⟩ ∧ Bs w g cur ty fz ∧ Rws R w cur off Ms := h.resolve_left fun e => by simp [e] at h0
theorem SV.mono {R' : World → Value → Int → Prop} (h : SV R w o ps) (hp : ∀ p ∈ ps, (∀ v, R w v p.1 → R' w v p.1) ∧ ∀ v, R w v p.2 → R' w v p.2) : SV R' w o ps := by
  rcases h with h | ⟨g, off, cur, ty, fz, rfl, x, d⟩
  · exact .inl h
  · refine .inr ⟨g, off, cur, ty, fz, rfl, x, fun i hi => ?_⟩
    obtain ⟨n1, o1, k1, c1, n2, o2, k2, c2, e1, e2, e3, e4, h1, h2⟩ := d i hi
    have := hp _ (List.getElem_mem hi)
    exact ⟨n1, o1, k1, c1, n2, o2, k2, c2, e1, e2, e3, e4, this.1 _ h1, this.2 _ h2⟩
theorem MV.mono {R' : World → Value → Int → Prop} (h : MV R w o Ms) (hp : ∀ r ∈ Ms, ∀ p ∈ r, (∀ v, R w v p.1 → R' w v p.1) ∧ ∀ v, R w v p.2 → R' w v p.2) : MV R' w o Ms := by
  rcases h with h | ⟨g, off, cur, ty, fz, rfl, x, d⟩
  · exact .inl h
  · refine .inr ⟨g, off, cur, ty, fz, rfl, x, fun i hi => ?_⟩
    obtain ⟨o, c, e, hs⟩ := d i hi
    exact ⟨o, c, e, hs.mono (hp _ (List.getElem_mem hi))⟩
end
/-- No number is longer. -/
def Bd (l : Nat) (ps : List (Int × Int)) : Prop := ∀ p ∈ ps, (dig p.1.natAbs).length ≤ l ∧ (dig p.2.natAbs).length ≤ l
def BdM (l : Nat) (Ms : List (List (Int × Int))) : Prop := ∀ r ∈ Ms, Bd l r
theorem MV.mn {w : World} {o : Option Addr} {Ms : List (List (Int × Int))} {l : Nat} (h : MC w o Ms) (hb : BdM l Ms) : MN l w o Ms := h.mono fun r hr p hp => ⟨fun v hv => ZC.zn hv (hb r hr p hp).1, fun v hv => ZC.zn hv (hb r hr p hp).2⟩
theorem ZN.up {w : World} {v : Value} {x : Int} {l m : Nat} (h : ZN w v x l) (hl : l ≤ m) : ZN w v x m := by
  obtain ⟨neg, s, xs, hv, hr, hz, hl'⟩ := h
  exact ⟨neg, s, xs, hv, hr, hz, Nat.le_trans hl' hl⟩
theorem SV.up {w : World} {o : Option Addr} {ps : List (Int × Int)} {l m : Nat} (h : SN l w o ps) (hl : l ≤ m) : SN m w o ps := h.mono fun p hp => ⟨fun v hv => ZN.up hv hl, fun v hv => ZN.up hv hl⟩
theorem SV.bd {w : World} {o : Option Addr} {ps : List (Int × Int)} {l : Nat} (h : SN l w o ps) : Bd l ps := fun p hp => by
  rcases h with rfl | ⟨g, off, cur, ty, fz, rfl, x, d⟩
  · cases hp
  · obtain ⟨i, hi, rfl⟩ := List.getElem_of_mem hp
    obtain ⟨n1, o1, k1, c1, n2, o2, k2, c2, e1, e2, e3, e4, h1, h2⟩ := d i hi
    exact ⟨h1.len, h2.len⟩
/-- An own list of canonical numbers can be read. -/
theorem GD.els {w : World} : ∀ {xs : List Value} {ps : List (Int × Int)}, GD w xs ps → ∀ i (hi : i < ps.length), ∃ n1 o1 k1 c1 n2 o2 k2 c2, xs[i * 4]? = some (.bool n1) ∧ xs[i * 4 + 1]? = some (.slice o1 k1 c1) ∧ xs[i * 4 + 2]? = some (.bool n2) ∧ xs[i * 4 + 3]? = some (.slice o2 k2 c2) ∧ ZC w (.agg #[.bool n1, .slice o1 k1 c1]) ps[i].1 ∧ ZC w (.agg #[.bool n2, .slice o2 k2 c2]) ps[i].2 :=
  fun h i hi => h.at hi
theorem Lst.sc {w : World} {B n c : Nat} {ty : TypeId} {o : Option Addr} {xs : List Value} {ps : List (Int × Int)} (L : Lst w B ty 4 (.slice o n c) n xs) (d : GD w xs ps) : n = ps.length ∧ SC w o ps := by
  have h1 := d.len
  have h2 := L.1.1
  have hn : n = ps.length := by omega
  refine ⟨hn, ?_⟩
  rcases Nat.eq_zero_or_pos n with h0 | h0
  · exact .inl (List.eq_nil_of_length_eq_zero (by omega))
  · obtain ⟨g, cur, rfl, x, hc⟩ := L.box h0
    refine .inr ⟨g, 0, cur, _, _, rfl, x, fun i hi => ?_⟩
    obtain ⟨n1, o1, k1, c1, n2, o2, k2, c2, e1, e2, e3, e4, h1, h2⟩ := d.els i hi
    exact ⟨n1, o1, k1, c1, n2, o2, k2, c2, by rw [Nat.zero_add]; exact hc _ _ e1, by rw [Nat.zero_add]; exact hc _ _ e2, by rw [Nat.zero_add]; exact hc _ _ e3, by rw [Nat.zero_add]; exact hc _ _ e4, h1, h2⟩
/-! ### Own lists written in place -/
def setL (xs : List Value) : List (Nat × Value) → List Value
  | [] => xs
  | (i, v) :: l => setL (xs.set i v) l
theorem Lst.put1 {w : World} {B g n c sz : Nat} {ty : TypeId} {xs : List Value} (h : Lst w B ty sz (.slice (some ⟨g, 0, none⟩) n c) n xs) (i : Nat) (hi : i < n * sz) (v : Value) (hv : nd v = true) :
    Lst (w.setCell ⟨g, i, none⟩ v) B ty sz (.slice (some ⟨g, 0, none⟩) n c) n (xs.set i v) ∧ Only g w (w.setCell ⟨g, i, none⟩ v) := by
  refine ⟨?_, (Only.refl g w).setCell i v⟩
  rcases h.1.2 with ⟨e, h0⟩ | ⟨g', cap, cur, e, hb, hg, hnc, hcm, hcs, htake⟩
  · cases e
  · simp only [Value.slice.injEq, Option.some.injEq, Addr.mk.injEq, and_true, true_and] at e
    obtain ⟨rfl, rfl⟩ := e
    have hg2 : (w.setCell ⟨g, i, none⟩ v).heap[g]? = some (.cells (cur.setIfInBounds i v) ty) := Bs.set (cs := cur) (ty := ty) hg i v
    refine ⟨⟨by rw [List.length_set]; exact h.1.1, .inr ⟨g, c, cur.setIfInBounds i v, rfl, hb, hg2, hnc, hcm, by rw [Array.size_setIfInBounds]; exact hcs, ?_⟩⟩, fun k cur2 hk hc => ?_⟩
    · rw [Array.toList_setIfInBounds, List.take_set, htake]
    · obtain rfl : g = k := by simpa [Value.ownBlock] using hk
      rw [hg2] at hc
      injection hc with hc
      injection hc with hc
      have h6 := List.all_eq_true.1 (h.2 g cur rfl hg)
      rw [← hc, Array.toList_setIfInBounds, List.all_eq_true]
      intro x hx
      rcases List.mem_or_eq_of_mem_set hx with h | rfl
      · exact h6 x h
      · exact hv
theorem Lst.put {B g n c sz : Nat} {ty : TypeId} : ∀ (l : List (Nat × Value)) {w : World} {xs : List Value}, Lst w B ty sz (.slice (some ⟨g, 0, none⟩) n c) n xs → (∀ p ∈ l, p.1 < n * sz ∧ nd p.2 = true) →
    Lst (setAll w g l) B ty sz (.slice (some ⟨g, 0, none⟩) n c) n (setL xs l) ∧ Only g w (setAll w g l)
  | [], w, xs, h, _ => ⟨h, Only.refl g w⟩
  | (i, v) :: l, w, xs, h, hl => by
    obtain ⟨h1, h2⟩ := h.put1 i (hl _ (List.mem_cons_self ..)).1 v (hl _ (List.mem_cons_self ..)).2
    obtain ⟨h3, h4⟩ := Lst.put l h1 fun p hp => hl p (List.mem_cons_of_mem _ hp)
    exact ⟨h3, h2.trans h4⟩
section
variable {P : Program} {o : Oper} {a : Act} {w w0 : World} {B : Exit → Act → World → Prop} {E : World → Prop} {G : Act → World → Prop} {bs : List En}
theorem St.put {g n c sz : Nat} {ty : TypeId} {xs : List Value} (hs : St w0 bs w) (i : Nat) (hi : bs[i]? = some (ls w0.heap.size ty sz (.slice (some ⟨g, 0, none⟩) n c) n xs)) (l : List (Nat × Value)) (hl : ∀ p ∈ l, p.1 < n * sz ∧ nd p.2 = true) (ht : (ty == 147) = false) :
    St w0 (bs.set i (ls w0.heap.size ty sz (.slice (some ⟨g, 0, none⟩) n c) n (setL xs l))) (setAll w g l) ∧ NoD w g ∧ Only g w (setAll w g l) := by
  have L : Lst w w0.heap.size ty sz (.slice (some ⟨g, 0, none⟩) n c) n xs := (hs.1.at hi).1
  obtain ⟨L2, ho⟩ := L.put l hl
  have hg : w0.heap.size ≤ g := (L.1.lt g rfl).1
  exact ⟨hs.st i hi (fun k _ hne => ho.block k fun e => hne (by rw [e]; rfl)) (Nat.le_of_eq ho.size.symm) (.ls L2) (fun k hk => .inl hk) (belowOnly hs.b ho hg), L.nod ht g rfl, ho⟩
theorem Lst.cellAt {g n c sz j : Nat} {ty : TypeId} {xs : List Value} {B0 : Nat} (L : Lst w B0 ty sz (.slice (some ⟨g, 0, none⟩) n c) n xs) (hj : j < n * sz) : ∃ u, w.cell? ⟨g, j, none⟩ = some u ∧ w.frozen? ⟨g, j, none⟩ = false := by
  have hl : j < xs.length := by rw [L.1.1]; exact hj
  obtain ⟨g', e, hc⟩ := L.cell (List.getElem?_eq_getElem hl)
  cases e
  refine ⟨_, hc, ?_⟩
  obtain ⟨g', cur, e, x, _⟩ := L.box (Nat.pos_of_ne_zero fun h => by subst h; simp at hj)
  cases e
  exact x.free j
/-- A row of a matrix, a number of a vector, written in an own list. -/
theorem Stp.i1 {g n c j : Nat} {ty : TypeId} {xs : List Value} {c0 : Value} {a' : Act} (i : Nat) (hs : St w0 bs w) (hj : j < n)
    (h : ∀ w', St w0 (bs.set i (ls w0.heap.size ty 1 (.slice (some ⟨g, 0, none⟩) n c) n (xs.set j c0))) w' → Kp w w' → NoD w g → Only g w w' → Below w0.heap.size w w' → G a' w')
    (hi : bs[i]? = some (ls w0.heap.size ty 1 (.slice (some ⟨g, 0, none⟩) n c) n xs) := by rfl)
    (h1 : ∀ d0, w.cell? ⟨g, j, none⟩ = some d0 → w.frozen? ⟨g, j, none⟩ = false → ∀ K : Act → World → Prop, K a' (w.setCell ⟨g, j, none⟩ c0) → o.wp P a w K B := by intro d0 e0 f0 K hK; go_big_op; exact hK)
    (e : ∀ w', Below w0.heap.size w0 w' → Only g w w' → E w' := by exact fun _ _ _ => trivial) (hd : a'.defers = a.defers := by rfl) (hn : nd c0 = true := by rfl) (ht : (ty == 147) = false := by rfl) : Stp P o a w B E G := fun K hK => by
  obtain ⟨hs2, h3, h4⟩ := hs.put i hi [(j, c0)] (fun p hp => by obtain rfl : p = (j, c0) := by simpa using hp
                                                                exact ⟨by simpa using hj, hn⟩) ht
  obtain ⟨d0, e0, f0⟩ := Lst.cellAt (B0 := w0.heap.size) (hs.1.at hi).1 (j := j) (by simpa using hj)
  exact h1 d0 e0 f0 K (hK _ _ hd (e _ hs2.b h4) (h _ hs2 (ko h3 h4) h3 h4 (h4.below ((hs.1.at hi).1.1.lt g rfl).1)))
theorem Stp.i4 {g n c j : Nat} {ty : TypeId} {xs : List Value} {c0 c1 c2 c3 : Value} {a' : Act} (i : Nat) (hs : St w0 bs w) (hj : j < n)
    (h : ∀ w', St w0 (bs.set i (ls w0.heap.size ty 4 (.slice (some ⟨g, 0, none⟩) n c) n (setL xs [(j * 4, c0), (j * 4 + 1, c1), (j * 4 + 2, c2), (j * 4 + 3, c3)]))) w' → Kp w w' → NoD w g → Only g w w' → Below w0.heap.size w w' → G a' w')
    (hi : bs[i]? = some (ls w0.heap.size ty 4 (.slice (some ⟨g, 0, none⟩) n c) n xs) := by rfl)
    (h1 : ∀ d0 d1 d2 d3, w.cell? ⟨g, j * 4, none⟩ = some d0 → w.cell? ⟨g, j * 4 + 1, none⟩ = some d1 → w.cell? ⟨g, j * 4 + 2, none⟩ = some d2 → w.cell? ⟨g, j * 4 + 3, none⟩ = some d3 → w.frozen? ⟨g, j * 4, none⟩ = false → w.frozen? ⟨g, j * 4 + 1, none⟩ = false → w.frozen? ⟨g, j * 4 + 2, none⟩ = false → w.frozen? ⟨g, j * 4 + 3, none⟩ = false →
      ∀ K : Act → World → Prop, K a' ((((w.setCell ⟨g, j * 4, none⟩ c0).setCell ⟨g, j * 4 + 1, none⟩ c1).setCell ⟨g, j * 4 + 2, none⟩ c2).setCell ⟨g, j * 4 + 3, none⟩ c3) → o.wp P a w K B := by intro d0 d1 d2 d3 e0 e1 e2 e3 f0 f1 f2 f3 K hK; go_big_op; exact hK)
    (e : ∀ w', Below w0.heap.size w0 w' → Only g w w' → E w' := by exact fun _ _ _ => trivial) (hd : a'.defers = a.defers := by rfl) (hn : [c0, c1, c2, c3].all nd = true := by rfl) (ht : (ty == 147) = false := by rfl) : Stp P o a w B E G := fun K hK => by
  obtain ⟨hs2, h3, h4⟩ := hs.put i hi [(j * 4, c0), (j * 4 + 1, c1), (j * 4 + 2, c2), (j * 4 + 3, c3)] (fun p hp => by
    simp only [List.all_cons, List.all_nil, Bool.and_eq_true, and_true] at hn
    obtain ⟨n0, n1, n2, n3⟩ := hn
    simp only [List.mem_cons, List.not_mem_nil, or_false] at hp
    rcases hp with rfl | rfl | rfl | rfl
    · exact ⟨by show j * 4 < n * 4; omega, n0⟩
    · exact ⟨by show j * 4 + 1 < n * 4; omega, n1⟩
    · exact ⟨by show j * 4 + 2 < n * 4; omega, n2⟩
    · exact ⟨by show j * 4 + 3 < n * 4; omega, n3⟩) ht
  have L := (hs.1.at hi).1
  obtain ⟨d0, e0, f0⟩ := Lst.cellAt (B0 := w0.heap.size) L (j := j * 4) (by omega)
  obtain ⟨d1, e1, f1⟩ := Lst.cellAt (B0 := w0.heap.size) L (j := j * 4 + 1) (by omega)
  obtain ⟨d2, e2, f2⟩ := Lst.cellAt (B0 := w0.heap.size) L (j := j * 4 + 2) (by omega)
  obtain ⟨d3, e3, f3⟩ := Lst.cellAt (B0 := w0.heap.size) L (j := j * 4 + 3) (by omega)
  exact h1 d0 d1 d2 d3 e0 e1 e2 e3 f0 f1 f2 f3 K (hK _ _ hd (e _ hs2.b h4) (h _ hs2 (ko h3 h4) h3 h4 (h4.below ((hs.1.at hi).1.1.lt g rfl).1)))
/-- A list is made. -/
theorem Stp.mk {t ety : TypeId} {inf : TypeInfo} {z : Value} {sz n : Nat} {l : Int} {lo co : Operand} {p : Nat → Act} (hs : St w0 bs w)
    (h : ∀ g xs w', St w0 (ls w0.heap.size ety sz (.slice (some ⟨g, 0, none⟩) n n) n xs :: bs) w' → xs = (madeCells z.cells (n * sz)).toList → Below w.heap.size w w' → Hid (w0.heap.size ≤ g) → G (p g) w')
    (hl : l = (n : Int)) (hn : n ≤ 100000000)
    (ho : o.op = .makeSlice t lo co := by rfl) (hlo : a.eval lo = .int .i64 l := by rfl) (hco : a.eval co = .int .i64 l := by rfl) (ht : P.underlying t = some (.slice ety) := by rfl) (hinf : P.info? ety = some inf := by rfl) (hz : inf.zero = some z := by rfl)
    (hsz : inf.size = sz := by rfl) (hby : inf.bytes ≤ 1000 := by decide) (hnd : z.cells.toList.all nd = true := by rfl) (h0 : z.cells.size = sz := by rfl) (h00 : 0 < sz := by decide)
    (hp : ∀ g, a.put o.dst (.slice (some ⟨g, 0, none⟩) n n) = p g := by intro g; unfold Act.put; simp only [List.setIfInBounds_toArray, List.set_cons_succ, List.set_cons_zero]; rfl)
    (eE : ∀ w', Below w.heap.size w w' → E w' := by exact fun _ _ => trivial) (hd : ∀ g, (p g).defers = a.defers := by exact fun _ => rfl) : Stp P o a w B E G := fun K hK => by
  subst hl
  obtain ⟨w', hr, hown, hg⟩ := run_make_full (P := P) w w0.heap.size t ety inf z sz ht hinf hz hsz .i64 .i64 n (Nat.le_trans (Nat.mul_le_mul_right _ hby) (by omega)) (by unfold maxLen; omega) hs.k
  have hb : Below w.heap.size w w' := ⟨hg.os, hg.tape, hg.output, hg.size, fun k hk => hg.block k hk fun h => by cases h⟩
  have hlt := hown.lt w.heap.size rfl
  have L : Lst w' w0.heap.size ety sz (.slice (some ⟨w.heap.size, 0, none⟩) n n) n (madeCells z.cells (n * sz)).toList := by
    refine ⟨hown, fun k cur hk hc => ?_⟩
    obtain rfl : w.heap.size = k := by simpa [Value.ownBlock] using hk
    rcases hown.2 with ⟨e, _⟩ | ⟨g', cap, cur', e, hb', hg', hnc, hcm, hcs, htake⟩
    · cases e
    · simp only [Value.slice.injEq, Option.some.injEq, Addr.mk.injEq, and_true, true_and] at e
      obtain ⟨rfl, rfl⟩ := e
      rw [hg'] at hc
      injection hc with hc
      injection hc with hc
      rw [← hc]
      have hall : cur'.toList = (madeCells z.cells (n * sz)).toList := by
        rw [← htake, List.take_of_length_le (by rw [Array.length_toList, hcs]; exact Nat.le_refl _)]
      rw [hall, List.all_eq_true]
      intro x hx
      unfold madeCells at hx
      simp only [Array.toList_map, List.mem_map] at hx
      obtain ⟨j, hj, rfl⟩ := hx
      have hlt2 : j % z.cells.size < z.cells.size := Nat.mod_lt _ (by omega)
      rw [getElem!_pos z.cells _ hlt2]
      exact List.all_eq_true.1 hnd _ (by simp)
  have hst : St w0 (ls w0.heap.size ety sz (.slice (some ⟨w.heap.size, 0, none⟩) n n) n (madeCells z.cells (n * sz)).toList :: bs) w' :=
    .cons (.ls L) (fun f hf k hk hc => by
      have h1 := hs.lt f hf k hc
      obtain rfl : w.heap.size = k := by simpa [ls, Value.ownBlock] using hk
      exact Nat.lt_irrefl _ h1) (hs.bl hb)
  unfold Oper.wp execOp
  simp only [ho, hlo, hco, Sem.run_bind, Sem.run_pure, hr, Result.andThen_ok, Oper.upon]
  have h7 := hK (p w.heap.size) w' (hd _) (eE _ hb) (h _ _ _ hst rfl hb hs.k)
  rw [← hp] at h7
  exact h7
end
/-- The state's entries in another order. -/
theorem AllE.perm {w : World} {bs cs : List En} (h : bs.Perm cs) : AllE bs w → AllE cs w := by
  have key : ∀ {l : List En}, AllE l w ↔ ∀ e ∈ l, Ok e w := by
    intro l
    induction l with
    | nil => simp [AllE]
    | cons a t ih => simp [AllE, ih]
  exact fun ha => key.2 fun e he => key.1 ha e (h.mem_iff.2 he)
theorem FD.perm {l m : List (Option Nat)} (h : l.Perm m) (hd : FD l) : FD m := h.pairwise hd fun hab k h1 h2 => hab k h2 h1
theorem St.perm {w0 w : World} {bs cs : List En} (h : bs.Perm cs) (hs : St w0 bs w) : St w0 cs w := ⟨hs.1.perm h, FD.perm (h.map _) hs.2.1, hs.2.2⟩
/-- A row of an own matrix. -/
structure Rw where
  v : Value
  n : Nat
  xs : List Value
def Rw.e (B : Nat) (r : Rw) : En := ls B 28 4 r.v r.n r.xs
/-- An own matrix: the list of its rows, and these. -/
def Mx (B : Nat) (v : Value) (rs : List Rw) : List En := ls B 52 1 v rs.length (rs.map (·.v)) :: rs.map (Rw.e B)
/-- The rows hold these numbers. -/
def RD (w : World) : List Rw → List (List (Int × Int)) → Prop
  | [], [] => True
  | r :: rs, p :: Ms => (r.n = p.length ∧ GD w r.xs p) ∧ RD w rs Ms
  | _, _ => False
theorem RD.k {w w' : World} (k : Kp w w') : ∀ {rs : List Rw} {Ms : List (List (Int × Int))}, RD w rs Ms → RD w' rs Ms
  | [], [], _ => trivial
  | _ :: _, _ :: _, h => ⟨⟨h.1.1, h.1.2.k k⟩, RD.k k h.2⟩
theorem RD.len {w : World} : ∀ {rs : List Rw} {Ms : List (List (Int × Int))}, RD w rs Ms → rs.length = Ms.length
  | [], [], _ => rfl
  | _ :: _, _ :: _, h => by simp [RD.len h.2]
theorem RD.get {w : World} : ∀ {rs : List Rw} {Ms : List (List (Int × Int))}, RD w rs Ms → ∀ i (hi : i < Ms.length), ∃ r, rs[i]? = some r ∧ r.n = Ms[i].length ∧ GD w r.xs Ms[i]
  | [], [], _, i, hi => absurd hi (Nat.not_lt_zero _)
  | r :: rs, p :: Ms, h, 0, hi => ⟨r, rfl, h.1⟩
  | r :: rs, p :: Ms, h, i + 1, hi => by
    obtain ⟨r', h1, h2⟩ := RD.get h.2 i (by simpa using hi)
    exact ⟨r', by simpa using h1, by simpa using h2⟩
theorem RD.snoc {w : World} : ∀ {rs : List Rw} {Ms : List (List (Int × Int))} {r : Rw} {p : List (Int × Int)}, RD w rs Ms → r.n = p.length → GD w r.xs p → RD w (rs ++ [r]) (Ms ++ [p])
  | [], [], r, p, _, h1, h2 => ⟨⟨h1, h2⟩, trivial⟩
  | _ :: _, _ :: _, r, p, h, h1, h2 => ⟨h.1, RD.snoc h.2 h1 h2⟩
theorem ls_mono {w : World} {B C : Nat} {ty : TypeId} {sz n : Nat} {v : Value} {xs : List Value} (h : Ok (ls B ty sz v n xs) w) (hC : C ≤ B) : Ok (ls C ty sz v n xs) w := .ls (h.1.mono hC)
/-- An own matrix that a call has made joins the state: its list ahead, its rows behind. -/
theorem St.mx {w0 w w' : World} {bs : List En} {v : Value} {rs : List Rw} {n : Nat} (hs : St w0 bs w) (hn : rs.length = n) (h : St w (Mx w.heap.size v rs) w') :
    St w0 (ls w0.heap.size 52 1 v n (rs.map (·.v)) :: (bs ++ rs.map (Rw.e w0.heap.size))) w' := by
  have hge : ∀ {rs : List Rw}, AllE (rs.map (Rw.e w.heap.size)) w' → AllE (rs.map (Rw.e w0.heap.size)) w' ∧ (rs.map (Rw.e w0.heap.size)).map (·.1) = (rs.map (Rw.e w.heap.size)).map (·.1) ∧ ∀ e ∈ rs.map (Rw.e w.heap.size), ∀ k, e.1 = some k → w.heap.size ≤ k := by
    intro rs
    induction rs with
    | nil => exact fun _ => ⟨trivial, rfl, fun e he => by cases he⟩
    | cons r t ih =>
      intro ha
      obtain ⟨h1, h2, h3⟩ := ih ha.2
      refine ⟨⟨ls_mono ha.1 hs.k, h1⟩, by simp only [List.map_cons, List.cons.injEq]; exact ⟨rfl, h2⟩, fun e he k hk => ?_⟩
      rcases List.mem_cons.1 he with rfl | he
      · have h9 : Lst w' w.heap.size 28 4 r.v r.n r.xs := ha.1.1
        exact (h9.1.lt k hk).1
      · exact h3 e he k hk
  obtain ⟨h1, h2, h3⟩ := hge h.1.2
  have h0 : Ok (ls w0.heap.size 52 1 v rs.length (rs.map (·.v))) w' := ls_mono h.1.1 hs.k
  have st : St w0 ((ls w0.heap.size 52 1 v rs.length (rs.map (·.v)) :: rs.map (Rw.e w0.heap.size)) ++ bs) w' := by
    have hb := hs.bl h.b
    refine ⟨?_, ?_, hb.b⟩
    · refine ⟨h0, ?_⟩
      have : ∀ {es : List En}, AllE es w' → AllE (es ++ bs) w' := by
        intro es
        induction es with
        | nil => exact fun _ => hb.1
        | cons e t ih => exact fun h => ⟨h.1, ih h.2⟩
      exact this h1
    · rw [List.map_append]
      have hfd : FD ((ls w0.heap.size 52 1 v rs.length (rs.map (·.v)) :: rs.map (Rw.e w0.heap.size)).map (·.1)) := by
        rw [List.map_cons, h2]; exact h.2.1
      refine List.pairwise_append.2 ⟨hfd, hb.2.1, fun a ha b hb' k hk1 hk2 => ?_⟩
      have h4 := hs.lt b hb' k hk2
      obtain ⟨e, he, rfl⟩ := List.mem_map.1 ha
      rcases List.mem_cons.1 he with rfl | he
      · have h9 : Lst w' w.heap.size 52 1 v rs.length (rs.map (·.v)) := h.1.1.1
        have := (h9.1.lt k hk1).1
        omega
      · have h5 : e.1 ∈ (rs.map (Rw.e w.heap.size)).map (·.1) := by rw [← h2]; exact List.mem_map.2 ⟨e, he, rfl⟩
        obtain ⟨e', he', h6⟩ := List.mem_map.1 h5
        have := h3 e' he' k (h6.trans hk1)
        omega
  subst hn
  exact st.perm (List.Perm.cons _ List.perm_append_comm)
end Go.Proofs.YtnkimagnmnocdaaGreat


/- gmat.build, at numbers and at rows. -/
namespace Go.Proofs.YtnkimagnmnocdaaGreat
open Go Go.RowKit Dig
set_option linter.unusedVariables false

theorem setL_app {ys zs : List Value} {i : Nat} {z0 z1 z2 z3 c0 c1 c2 c3 : Value} (h : ys.length = i * 4) :
    setL (ys ++ z0 :: z1 :: z2 :: z3 :: zs) [(i * 4, c0), (i * 4 + 1, c1), (i * 4 + 2, c2), (i * 4 + 3, c3)] = (ys ++ [c0, c1, c2, c3]) ++ zs := by
  simp only [setL]
  rw [List.set_append_right _ _ (by omega), show i * 4 - ys.length = 0 by omega, List.set_cons_zero, List.set_append_right _ _ (by omega), show i * 4 + 1 - ys.length = 1 by omega, List.set_cons_succ, List.set_cons_zero,
    List.set_append_right _ _ (by omega), show i * 4 + 2 - ys.length = 2 by omega, List.set_cons_succ, List.set_cons_succ, List.set_cons_zero, List.set_append_right _ _ (by omega), show i * 4 + 3 - ys.length = 3 by omega, List.set_cons_succ, List.set_cons_succ, List.set_cons_succ, List.set_cons_zero]
  simp
theorem four_of {zs : List Value} (h : 4 ≤ zs.length) : ∃ z0 z1 z2 z3 ws, zs = z0 :: z1 :: z2 :: z3 :: ws := by
  match zs, h with
  | a :: b :: c :: d :: ws, _ => exact ⟨a, b, c, d, ws, rfl⟩
theorem mapr_succ {α : Type} (F : Nat → α) (i : Nat) : (List.range (i + 1)).map F = (List.range i).map F ++ [F i] := by rw [List.range_succ, List.map_append]; rfl
/-- A function that is called comes to be entered, whatever its arguments. -/
def Ent1 (f : Nat) (caps : Array Value) : Prop := ∀ v w1, Sem.run Tryz.prog (callFunc f (#[v] ++ caps)) w1 = .ok (.enter f (#[v] ++ caps)) w1
section
variable {w : World} {f n : Nat} {caps : Array Value}
end
end Go.Proofs.YtnkimagnmnocdaaGreat


/- gmat.build at rows; gmat.matrix. -/
namespace Go.Proofs.YtnkimagnmnocdaaGreat
open Go Go.RowKit Dig
set_option linter.unusedVariables false

section
variable {w : World} {f n : Nat} {caps : Array Value}
end
end Go.Proofs.YtnkimagnmnocdaaGreat


/- gmat.width, Good, isOneSize. -/
namespace Go.Proofs.YtnkimagnmnocdaaGreat
open Go Go.RowKit Dig
set_option linter.unusedVariables false

/-- How many numbers the first row has. -/
def wd (Ms : List (List (Int × Int))) : Nat := (Ms.headD []).length
def gd (Ms : List (List (Int × Int))) : Prop := Ms.length ≤ 64 ∧ wd Ms ≤ 64 ∧ ∀ r ∈ Ms, r.length = wd Ms
instance (Ms : List (List (Int × Int))) : Decidable (gd Ms) := inferInstanceAs (Decidable (_ ∧ _ ∧ _))
theorem wd_0 {Ms : List (List (Int × Int))} (h : 0 < Ms.length) : Ms[0].length = wd Ms := by
  match Ms, h with
  | r :: Ms, _ => rfl
theorem wd_nil {Ms : List (List (Int × Int))} (h : Ms.length = 0) : wd Ms = 0 := by rw [List.eq_nil_of_length_eq_zero h]; rfl
section
variable {w : World} {l : Nat} {om : Option Addr} {n k cm : Nat} {Ms : List (List (Int × Int))}
set_option maxHeartbeats 4000000 in
set_option maxRecDepth 20000 in
theorem width_any (hm : MN l w om Ms) (hn : Ms.length = n) (hk : wd Ms = k) :
    Calls Tryz.prog 89 #[.slice om n cm] w fun e w' => e = .returned (.int .i64 (k : Int)) ∧ Below w.heap.size w w' := by
  rcases Nat.eq_zero_or_pos n with h0 | h0
  · have hk0 : 0 = k := by rw [← hk, wd_nil (hn.trans h0)]
    subst hk0 h0
    clear hk hn hm
    go_enter Tryz.func89, Tryz.ntmps89
    have hs := St.nil w
    refine wp_seq_k ?_
    intro K1 hK1
    refine rg [0] ?_
    refine sq ?_
    refine .mv ?_
    apply wpSq_end
    refine hK1 _ _ ?_
    refine wp_seq_k ?_
    intro K2 hK2
    refine wp_seq_k ?_
    intro K3 hK3
    refine rg [0, 1, 2] ?_
    refine sq ?_
    refine .mv ?_
    refine sq ?_
    refine .r0 ?_
    refine sq ?_
    refine .r0 ?_
    apply wpSq_end
    refine hK3 _ _ ?_
    refine ct ?_
    refine wp_seq_k ?_
    intro K4 hK4
    refine rg [0] ?_
    refine sq ?_
    refine .mv ?_
    apply wpSq_end
    refine hK4 _ _ ?_
    refine wp_ret ?_
    try dsimp only [Exit.then, Exit.inBlock]
    refine bodyPost_ret (v := (.int .i64 0)) (by simp [results, Tryz.results89, go_sem]) rfl ?_
    exact ⟨rfl, hs.b⟩
  · obtain ⟨g, off, cur, ty, fz, rfl, x, hr⟩ := hm.box (by omega)
    obtain ⟨o0, c0, e0, s0⟩ := hr 0 (by omega)
    rw [wd_0 (by omega), hk, Nat.add_zero] at e0
    clear hm hr s0 hk hn
    go_enter Tryz.func89, Tryz.ntmps89
    have hs := St.nil w
    refine wp_seq_k ?_
    intro K1 hK1
    refine rg [0] ?_
    refine sq ?_
    refine .mv ?_
    apply wpSq_end
    refine hK1 _ _ ?_
    refine wp_seq_k ?_
    intro K2 hK2
    refine wp_seq_k ?_
    intro K3 hK3
    refine rg [0, 1, 2] ?_
    refine sq ?_
    refine .mv ?_
    refine sq ?_
    refine .r0 ?_
    refine sq ?_
    refine .r0 ?_
    apply wpSq_end
    refine hK3 _ _ ?_
    refine cf ?_
    refine wp_skip ?_
    refine hK2 _ _ ?_
    refine wp_seq_k ?_
    intro K4 hK4
    refine rg [0, 1, 2, 3, 4] ?_
    refine sq ?_
    refine .mv ?_
    refine sq ?_
    refine .r0 ?_
    refine sq ?_
    refine .r1 (x.cell _ e0) ?_
    refine sq ?_
    refine .r0 ?_
    refine sq ?_
    refine .mv ?_
    apply wpSq_end
    refine hK4 _ _ ?_
    refine wp_ret ?_
    try dsimp only [Exit.then, Exit.inBlock]
    refine bodyPost_ret (v := (.int .i64 ((k : Nat) : Int))) (by simp [results, Tryz.results89, go_sem]) rfl ?_
    exact ⟨rfl, hs.b⟩
set_option maxHeartbeats 4000000 in
set_option maxRecDepth 20000 in
theorem good_any (hm : MN l w om Ms) (hn : Ms.length = n) (hl : n ≤ 1000000000) :
    Calls Tryz.prog 49 #[.slice om n cm] w fun e w' => e = .returned (.bool (decide (gd Ms))) ∧ Below w.heap.size w w' := by
  obtain ⟨k, hk⟩ : ∃ k, wd Ms = k := ⟨_, rfl⟩
  have hw := fun (w' : World) (hb : Below w.heap.size w w') => width_any (cm := cm) (hm.bl stab_n hb) hn hk
  have HG := hide (show (n ≤ 64 ∧ k ≤ 64 ∧ ∀ r ∈ Ms, r.length = k) ↔ gd Ms by unfold gd; rw [hk, hn])
  by_cases hn64 : 64 < n
  · have hg : decide (gd Ms) = false := decide_eq_false fun h => by have := (HG.out.2 h).1; omega
    have Hg := hide hg
    clear hg
    have t1 : ((64 : Int) < (n : Int)) = True := eq_true (by omega)
    go_enter Tryz.func49, Tryz.ntmps49
    have hs := St.nil w
    refine wp_seq_k ?_
    intro K1 hK1
    refine rg [0] ?_
    refine sq ?_
    refine .mv ?_
    apply wpSq_end
    refine hK1 _ _ ?_
    refine wp_seq_k ?_
    intro K2 hK2
    refine wp_seq_k ?_
    intro K3 hK3
    refine rg [0, 1, 2, 3, 4, 5, 6, 7] ?_
    refine sq ?_
    refine .mv ?_
    refine sq ?_
    refine .r0 ?_
    refine sq ?_
    refine .r0 ?_
    refine sq ?_
    refine .mv ?_
    refine sk ?_
    refine sk ?_
    refine sk ?_
    refine sq ?_
    refine .r0 ?_
    apply wpSq_end
    refine hK3 _ _ ?_
    refine ct ?_
    refine wp_seq_k ?_
    intro K4 hK4
    refine rg [0] ?_
    refine sq ?_
    refine .mv ?_
    apply wpSq_end
    refine hK4 _ _ ?_
    refine wp_ret ?_
    try dsimp only [Exit.then, Exit.inBlock]
    refine bodyPost_ret (v := (.bool false)) (by simp [results, Tryz.results49, go_sem]) rfl ?_
    exact ⟨by rw [Hg.out], hs.b⟩
  · by_cases hk64 : 64 < k
    · have hg : decide (gd Ms) = false := decide_eq_false fun h => by have := (HG.out.2 h).2.1; omega
      have Hg := hide hg
      clear hg
      have t1 : ((64 : Int) < (n : Int)) = False := eq_false (by omega)
      have t2 : ((64 : Int) < (k : Int)) = True := eq_true (by omega)
      go_enter Tryz.func49, Tryz.ntmps49
      have hs := St.nil w
      refine wp_seq_k ?_
      intro K1 hK1
      refine rg [0] ?_
      refine sq ?_
      refine .mv ?_
      apply wpSq_end
      refine hK1 _ _ ?_
      refine wp_seq_k ?_
      intro K2 hK2
      refine wp_seq_k ?_
      intro K3 hK3
      refine rg [0, 1, 2, 3, 4, 5, 6, 7] ?_
      refine sq ?_
      refine .mv ?_
      refine sq ?_
      refine .r0 ?_
      refine sq ?_
      refine .r0 ?_
      refine sq ?_
      refine .mv ?_
      refine sq ?_
      refine .mv ?_
      refine sq ?_
      intro K hK
      have hb := hs.b
      go_big_op
      go_fit (hw _ hb)
      rintro e w_1 ⟨rfl, hb_1⟩
      clear hb
      replace hs := hs.bl hb_1
      refine hK _ _ rfl trivial ?_
      clear hK K
      refine sq ?_
      refine .r0 ?_
      refine sq ?_
      refine .r0 ?_
      apply wpSq_end
      refine hK3 _ _ ?_
      refine ct ?_
      refine wp_seq_k ?_
      intro K4 hK4
      refine rg [0] ?_
      refine sq ?_
      refine .mv ?_
      apply wpSq_end
      refine hK4 _ _ ?_
      refine wp_ret ?_
      try dsimp only [Exit.then, Exit.inBlock]
      refine bodyPost_ret (v := (.bool false)) (by simp [results, Tryz.results49, go_sem]) rfl ?_
      exact ⟨by rw [Hg.out], hs.b⟩
    · have X : n = 0 ∨ ∃ g off cur ty fz, om = some ⟨g, off, none⟩ ∧ Bs w g cur ty fz ∧ Rws (RN l) w cur off Ms := hm.imp (fun e => by rw [← hn, e]; rfl) id
      have t1 : ((64 : Int) < (n : Int)) = False := eq_false (by omega)
      have t2 : ((64 : Int) < (k : Int)) = False := eq_false (by omega)
      go_enter Tryz.func49, Tryz.ntmps49
      have hs := St.nil w
      refine wp_seq_k ?_
      intro K1 hK1
      refine rg [0] ?_
      refine sq ?_
      refine .mv ?_
      apply wpSq_end
      refine hK1 _ _ ?_
      refine wp_seq_k ?_
      intro K2 hK2
      refine wp_seq_k ?_
      intro K3 hK3
      refine rg [0, 1, 2, 3, 4, 5, 6, 7] ?_
      refine sq ?_
      refine .mv ?_
      refine sq ?_
      refine .r0 ?_
      refine sq ?_
      refine .r0 ?_
      refine sq ?_
      refine .mv ?_
      refine sq ?_
      refine .mv ?_
      refine sq ?_
      intro K hK
      have hb := hs.b
      go_big_op
      go_fit (hw _ hb)
      rintro e w_1 ⟨rfl, hb_1⟩
      clear hb
      replace hs := hs.bl hb_1
      refine hK _ _ rfl trivial ?_
      clear hK K
      refine sq ?_
      refine .r0 ?_
      refine sq ?_
      refine .r0 ?_
      apply wpSq_end
      refine hK3 _ _ ?_
      refine cf ?_
      refine wp_skip ?_
      refine hK2 _ _ ?_
      refine wp_seq_k ?_
      intro K4 hK4
      refine wp_seq_k ?_
      intro K5 hK5
      refine rg [0, 1, 2] ?_
      refine sq ?_
      refine .mv ?_
      refine sq ?_
      refine .r0 ?_
      refine sq ?_
      refine .mv ?_
      apply wpSq_end
      refine hK5 _ _ ?_
      refine wp_block ?_
      have hd2 := hs.2.1
      go_loopg [15] n (fun kk s15 wr => ∃ i : Nat, s15 = .int .i64 (i : Int) ∧ i + kk = n ∧ Hid (∀ j (hj : j < Ms.length), j < i → Ms[j].length = k) ∧ St w [] wr)
      case atStart => exact ⟨0, rfl, by omega, hide fun j _ h => absurd h (Nat.not_lt_zero j), hs⟩
      case round =>
      clear hs
      obtain ⟨i, rfl, hik, HJ, hs⟩ := hrel
      by_cases hi : i < n
      · obtain ⟨g, off, cur, ty, fz, rfl, x, hr⟩ := X.resolve_left (by omega)
        obtain ⟨oi, ci, ei, si⟩ := hr i (by omega)
        have x1 := x.bl hs.b
        have HI := hide (show ∀ k', Ms[i].length = k' → k' = k → ∀ j (hj : j < Ms.length), j < i + 1 → Ms[j].length = k from fun k' e1 e2 j hj h => by
          rcases Nat.lt_succ_iff_lt_or_eq.1 h with h | h
          · exact HJ.out j hj h
          · subst h; omega)
        have HN := hide (show Ms[i].length ≠ k → decide (gd Ms) = false from fun h => decide_eq_false fun hg => h ((HG.out.2 hg).2.2 _ (List.getElem_mem _)))
        obtain ⟨kr, hkr⟩ : ∃ kr, Ms[i].length = kr := ⟨_, rfl⟩
        rw [hkr] at ei HN
        replace HI := hide (HI.out kr hkr)
        clear hkr si X
        refine wp_seq_k ?_
        intro K6 hK6
        refine rg [0] ?_
        refine sq ?_
        refine .r0 ?_
        apply wpSq_end
        refine hK6 _ _ ?_
        refine wp_seq_k ?_
        intro K7 hK7
        refine ct ?_
        refine wp_skip ?_
        refine hK7 _ _ ?_
        refine wp_seq_k ?_
        intro K8 hK8
        refine wp_block ?_
        refine wp_seq_k ?_
        intro K9 hK9
        refine rg [0, 1, 2] ?_
        refine sq ?_
        refine .r0 ?_
        refine sq ?_
        refine .r1 (x1.cell _ ei) ?_
        refine sq ?_
        refine .mv ?_
        apply wpSq_end
        refine hK9 _ _ ?_
        refine wp_seq_k ?_
        intro K10 hK10
        refine rg [0, 1, 2, 3, 4] ?_
        refine sq ?_
        refine .mv ?_
        refine sq ?_
        refine .r0 ?_
        refine sq ?_
        refine .mv ?_
        refine sq ?_
        intro K hK
        have hb := hs.b
        go_big_op
        go_fit (hw _ hb)
        rintro e w_3 ⟨rfl, hb_3⟩
        clear hb
        replace x1 := x1.bl hb_3; replace hs := hs.bl hb_3
        refine hK _ _ rfl trivial ?_
        clear hK K
        refine sq ?_
        refine .r0 ?_
        apply wpSq_end
        refine hK10 _ _ ?_
        by_cases hkk : kr = k
        · have HK := hide hkk
          have t3 : ((kr : Int) != (k : Int)) = false := by rw [hkk]; simp
          refine cf ?_
          refine wp_skip ?_
          refine hK8 _ _ ?_
          refine rg [0, 1] ?_
          refine sq ?_
          refine .r0 ?_
          refine sq ?_
          refine .mv ?_
          apply wpSq_end
          refine ‹∀ (a' : Act) (w' : World), Handed _ _ a' w' → _› _ _ ?_
          go_roundg (gk - 1)
          case rel => exact ⟨i + 1, by rfl, by omega, hide (HI.out hkk), hs⟩
          case measure => omega
        · have Hg := hide (HN.out hkk)
          have t3 : ((kr : Int) != (k : Int)) = true := bne_iff_ne.2 (by omega)
          refine ct ?_
          refine wp_seq_k ?_
          intro K11 hK11
          refine rg [0] ?_
          refine sq ?_
          refine .mv ?_
          apply wpSq_end
          refine hK11 _ _ ?_
          refine wp_ret ?_
          try dsimp only [Exit.then, Exit.inBlock]
          refine bodyPost_ret (v := (.bool false)) (by simp [results, Tryz.results49, go_sem]) rfl ?_
          exact ⟨by rw [Hg.out], hs.b⟩
      · have HX := hide hi
        have Hg := hide (show decide (gd Ms) = true from decide_eq_true (HG.out.1 ⟨by omega, by omega, fun r hr => by
          obtain ⟨j, hj, rfl⟩ := List.getElem_of_mem hr
          exact HJ.out j hj (by omega)⟩))
        refine wp_seq_k ?_
        intro K6 hK6
        refine rg [0] ?_
        refine sq ?_
        refine .r0 ?_
        apply wpSq_end
        refine hK6 _ _ ?_
        refine wp_seq_k ?_
        intro K7 hK7
        refine cf ?_
        refine wp_exit ?_
        refine hK4 _ _ ?_
        refine wp_seq_k ?_
        intro K8 hK8
        refine rg [0] ?_
        refine sq ?_
        refine .mv ?_
        apply wpSq_end
        refine hK8 _ _ ?_
        refine wp_ret ?_
        try dsimp only [Exit.then, Exit.inBlock]
        refine bodyPost_ret (v := (.bool true)) (by simp [results, Tryz.results49, go_sem]) rfl ?_
        exact ⟨by rw [Hg.out], hs.b⟩
theorem good_yes (hm : MN l w om Ms) (hn : Ms.length = n) (hl : n ≤ 1000000000) (h : gd Ms) :
    Calls Tryz.prog 49 #[.slice om n cm] w fun e w' => e = .returned (.bool true) ∧ Below w.heap.size w w' := by
  have := good_any (cm := cm) hm hn hl; rw [decide_eq_true h] at this; exact this
theorem good_no (hm : MN l w om Ms) (hn : Ms.length = n) (hl : n ≤ 1000000000) (h : ¬ gd Ms) :
    Calls Tryz.prog 49 #[.slice om n cm] w fun e w' => e = .returned (.bool false) ∧ Below w.heap.size w w' := by
  have := good_any (cm := cm) hm hn hl; rw [decide_eq_false h] at this; exact this
variable {la lb na nb ca cb : Nat} {oa ob : Option Addr} {A B : List (List (Int × Int))}
end
end Go.Proofs.YtnkimagnmnocdaaGreat


/- gmat's closures that read matrices: sums, multiples, what is turned, copied; the one of ones. -/
namespace Go.Proofs.YtnkimagnmnocdaaGreat
open Go Go.RowKit Dig
set_option linter.unusedVariables false

def aP (p q : Int × Int) : Int × Int := (p.1 + q.1, p.2 + q.2)
def sP (p q : Int × Int) : Int × Int := (p.1 - q.1, p.2 - q.2)
def mP (p q : Int × Int) : Int × Int := (p.1 * q.1 - p.2 * q.2, p.1 * q.2 + p.2 * q.1)
def rw_ (Ms : List (List (Int × Int))) (i : Nat) : List (Int × Int) := Ms.getD i []
def at1 (ps : List (Int × Int)) (j : Nat) : Int × Int := ps.getD j (0, 0)
def at2 (Ms : List (List (Int × Int))) (i j : Nat) : Int × Int := at1 (rw_ Ms i) j
def mkM (r c : Nat) (F : Nat → Nat → Int × Int) : List (List (Int × Int)) := (List.range r).map fun i => (List.range c).map (F i)
theorem rw_eq {Ms : List (List (Int × Int))} {i : Nat} (hi : i < Ms.length) : rw_ Ms i = Ms[i] := by simp [rw_, List.getD, hi]
theorem at1_eq {ps : List (Int × Int)} {i : Nat} (hi : i < ps.length) : at1 ps i = ps[i] := by simp [at1, List.getD, hi]
theorem SV.op {l : Nat} {w : World} {o : Option Addr} {ps : List (Int × Int)} {j : Nat} (h : SN l w o ps) (hj : j < ps.length) :
    ∃ g off cur ty fz n1 o1 k1 c1 n2 o2 k2 c2, o = some ⟨g, off, none⟩ ∧ Bs w g cur ty fz ∧ cur[off + j * 4]? = some (.bool n1) ∧ cur[off + j * 4 + 1]? = some (.slice o1 k1 c1) ∧ cur[off + j * 4 + 2]? = some (.bool n2) ∧ cur[off + j * 4 + 3]? = some (.slice o2 k2 c2) ∧
      ZN w (.agg #[.bool n1, .slice o1 k1 c1]) (at1 ps j).1 l ∧ ZN w (.agg #[.bool n2, .slice o2 k2 c2]) (at1 ps j).2 l := by
  obtain ⟨g, off, cur, ty, fz, rfl, x, hr⟩ := h.box (by omega)
  obtain ⟨n1, o1, k1, c1, n2, o2, k2, c2, e1, e2, e3, e4, h1, h2⟩ := hr j hj
  rw [← at1_eq hj] at h1 h2
  exact ⟨g, off, cur, ty, fz, n1, o1, k1, c1, n2, o2, k2, c2, rfl, x, e1, e2, e3, e4, h1, h2⟩
theorem MV.row {l : Nat} {w : World} {om : Option Addr} {Ms : List (List (Int × Int))} {i : Nat} (h : MN l w om Ms) (hi : i < Ms.length) :
    ∃ g off cur ty fz oi ci, om = some ⟨g, off, none⟩ ∧ Bs w g cur ty fz ∧ cur[off + i]? = some (.slice oi (rw_ Ms i).length ci) ∧ SN l w oi (rw_ Ms i) := by
  obtain ⟨g, off, cur, ty, fz, rfl, x, hr⟩ := h.box (by omega)
  obtain ⟨o, c, e, hs⟩ := hr i hi
  rw [← rw_eq hi] at e hs
  exact ⟨g, off, cur, ty, fz, o, c, rfl, x, e, hs⟩
section
variable {w : World} {l la lb i j n na nb cm ca cb pa pb pm pf : Nat} {om oa ob : Option Addr} {Ms A B : List (List (Int × Int))}
end
end Go.Proofs.YtnkimagnmnocdaaGreat

