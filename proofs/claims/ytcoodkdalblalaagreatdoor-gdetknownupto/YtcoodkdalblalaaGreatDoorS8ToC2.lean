/- Lists of Gaussian rationals: stores of eight cells in own lists; what they hold. -/
import Derived.Test.YtcoodkdalblalaaGreatDoorZ13ToX1
namespace Go.Proofs.YtcoodkdalblalaaGreatDoor
open Go Go.RowKit Dig
set_option linter.unusedVariables false
section
variable {P : Program} {o : Oper} {a : Act} {w w0 : World} {B : Exit → Act → World → Prop} {E : World → Prop} {G : Act → World → Prop} {bs : List En}
theorem Stp.i8 {g n c j : Nat} {ty : TypeId} {xs : List Value} {c0 c1 c2 c3 c4 c5 c6 c7 : Value} {a' : Act} (i : Nat) (hs : St w0 bs w) (hj : j < n)
    (h : ∀ w', St w0 (bs.set i (ls w0.heap.size ty 8 (.slice (some ⟨g, 0, none⟩) n c) n (setL xs [(j * 8, c0), (j * 8 + 1, c1), (j * 8 + 2, c2), (j * 8 + 3, c3), (j * 8 + 4, c4), (j * 8 + 5, c5), (j * 8 + 6, c6), (j * 8 + 7, c7)]))) w' → Kp w w' → NoD w g → Only g w w' → Below w0.heap.size w w' → G a' w')
    (hi : bs[i]? = some (ls w0.heap.size ty 8 (.slice (some ⟨g, 0, none⟩) n c) n xs) := by rfl)
    (h1 : ∀ d0 d1 d2 d3 d4 d5 d6 d7, w.cell? ⟨g, j * 8, none⟩ = some d0 → w.cell? ⟨g, j * 8 + 1, none⟩ = some d1 → w.cell? ⟨g, j * 8 + 2, none⟩ = some d2 → w.cell? ⟨g, j * 8 + 3, none⟩ = some d3 → w.cell? ⟨g, j * 8 + 4, none⟩ = some d4 → w.cell? ⟨g, j * 8 + 5, none⟩ = some d5 → w.cell? ⟨g, j * 8 + 6, none⟩ = some d6 → w.cell? ⟨g, j * 8 + 7, none⟩ = some d7 → w.frozen? ⟨g, j * 8, none⟩ = false → w.frozen? ⟨g, j * 8 + 1, none⟩ = false → w.frozen? ⟨g, j * 8 + 2, none⟩ = false → w.frozen? ⟨g, j * 8 + 3, none⟩ = false → w.frozen? ⟨g, j * 8 + 4, none⟩ = false → w.frozen? ⟨g, j * 8 + 5, none⟩ = false → w.frozen? ⟨g, j * 8 + 6, none⟩ = false → w.frozen? ⟨g, j * 8 + 7, none⟩ = false →
      ∀ K : Act → World → Prop, K a' ((((((((w.setCell ⟨g, j * 8, none⟩ c0).setCell ⟨g, j * 8 + 1, none⟩ c1).setCell ⟨g, j * 8 + 2, none⟩ c2).setCell ⟨g, j * 8 + 3, none⟩ c3).setCell ⟨g, j * 8 + 4, none⟩ c4).setCell ⟨g, j * 8 + 5, none⟩ c5).setCell ⟨g, j * 8 + 6, none⟩ c6).setCell ⟨g, j * 8 + 7, none⟩ c7) → o.wp P a w K B := by intro d0 d1 d2 d3 d4 d5 d6 d7 e0 e1 e2 e3 e4 e5 e6 e7 f0 f1 f2 f3 f4 f5 f6 f7 K hK; go_big_op; exact hK)
    (e : ∀ w', Below w0.heap.size w0 w' → Only g w w' → E w' := by exact fun _ _ _ => trivial) (hd : a'.defers = a.defers := by rfl) (hn : [c0, c1, c2, c3, c4, c5, c6, c7].all nd = true := by rfl) (ht : (ty == 105) = false := by rfl) : Stp P o a w B E G := fun K hK => by
  obtain ⟨hs2, h3, h4⟩ := hs.put i hi [(j * 8, c0), (j * 8 + 1, c1), (j * 8 + 2, c2), (j * 8 + 3, c3), (j * 8 + 4, c4), (j * 8 + 5, c5), (j * 8 + 6, c6), (j * 8 + 7, c7)] (fun p hp => by
    simp only [List.all_cons, List.all_nil, Bool.and_eq_true, and_true] at hn
    obtain ⟨n0, n1, n2, n3, n4, n5, n6, n7⟩ := hn
    simp only [List.mem_cons, List.not_mem_nil, or_false] at hp
    rcases hp with rfl | rfl | rfl | rfl | rfl | rfl | rfl | rfl
    · exact ⟨by show j * 8 < n * 8; omega, n0⟩
    · exact ⟨by show j * 8 + 1 < n * 8; omega, n1⟩
    · exact ⟨by show j * 8 + 2 < n * 8; omega, n2⟩
    · exact ⟨by show j * 8 + 3 < n * 8; omega, n3⟩
    · exact ⟨by show j * 8 + 4 < n * 8; omega, n4⟩
    · exact ⟨by show j * 8 + 5 < n * 8; omega, n5⟩
    · exact ⟨by show j * 8 + 6 < n * 8; omega, n6⟩
    · exact ⟨by show j * 8 + 7 < n * 8; omega, n7⟩) ht
  have L := (hs.1.at hi).1
  obtain ⟨d0, e0, f0⟩ := Lst.cellAt (B0 := w0.heap.size) L (j := j * 8) (by omega)
  obtain ⟨d1, e1, f1⟩ := Lst.cellAt (B0 := w0.heap.size) L (j := j * 8 + 1) (by omega)
  obtain ⟨d2, e2, f2⟩ := Lst.cellAt (B0 := w0.heap.size) L (j := j * 8 + 2) (by omega)
  obtain ⟨d3, e3, f3⟩ := Lst.cellAt (B0 := w0.heap.size) L (j := j * 8 + 3) (by omega)
  obtain ⟨d4, e4, f4⟩ := Lst.cellAt (B0 := w0.heap.size) L (j := j * 8 + 4) (by omega)
  obtain ⟨d5, e5, f5⟩ := Lst.cellAt (B0 := w0.heap.size) L (j := j * 8 + 5) (by omega)
  obtain ⟨d6, e6, f6⟩ := Lst.cellAt (B0 := w0.heap.size) L (j := j * 8 + 6) (by omega)
  obtain ⟨d7, e7, f7⟩ := Lst.cellAt (B0 := w0.heap.size) L (j := j * 8 + 7) (by omega)
  exact h1 d0 d1 d2 d3 d4 d5 d6 d7 e0 e1 e2 e3 e4 e5 e6 e7 f0 f1 f2 f3 f4 f5 f6 f7 K (hK _ _ hd (e _ hs2.b h4) (h _ hs2 (ko h3 h4) h3 h4 (h4.below ((hs.1.at hi).1.1.lt g rfl).1)))
end
/-- Gaussian rationals in lowest terms, one behind the other. -/
def CD (w : World) : List Value → List (Rat × Rat) → Prop
  | [], [] => True
  | c1 :: c2 :: c3 :: c4 :: c5 :: c6 :: c7 :: c8 :: xs, p :: ps => CC w (.agg #[c1, c2, c3, c4, c5, c6, c7, c8]) p.1.num p.1.den p.2.num p.2.den ∧ CD w xs ps
  | _, _ => False
theorem CC.k {w w' : World} {v : Value} {x y u z : Int} (h : CC w v x y u z) (k : Kp w w') : CC w' v x y u z := by
  obtain ⟨n1, o1, k1, c1, n2, o2, k2, c2, n3, o3, k3, c3, n4, o4, k4, c4, rfl, h1, h2, h3, h4⟩ := h
  exact .mk' (h1.k k) (h2.k k) (h3.k k) (h4.k k)
theorem CD.k' {w w' : World} (k : Kp w w') : ∀ {xs : List Value} {ps : List (Rat × Rat)}, CD w xs ps → CD w' xs ps
  | [], [], _ => trivial
  | _ :: _ :: _ :: _ :: _ :: _ :: _ :: _ :: _, _ :: _, h => ⟨h.1.k k, CD.k' k h.2⟩
theorem CD.k {w w' : World} {xs : List Value} {ps : List (Rat × Rat)} (h : CD w xs ps) (k : Kp w w') : CD w' xs ps := CD.k' k h
theorem CD.nil (w : World) : CD w [] [] := trivial
theorem CD.snoc' {w : World} {c1 c2 c3 c4 c5 c6 c7 c8 : Value} {p : Rat × Rat} (h2 : CC w (.agg #[c1, c2, c3, c4, c5, c6, c7, c8]) p.1.num p.1.den p.2.num p.2.den) : ∀ {xs : List Value} {ps : List (Rat × Rat)}, CD w xs ps → CD w (xs ++ [c1, c2, c3, c4, c5, c6, c7, c8]) (ps ++ [p])
  | [], [], _ => ⟨h2, trivial⟩
  | _ :: _ :: _ :: _ :: _ :: _ :: _ :: _ :: _, _ :: _, h => ⟨h.1, CD.snoc' h2 h.2⟩
theorem CD.snoc {w : World} {xs : List Value} {ps : List (Rat × Rat)} {c1 c2 c3 c4 c5 c6 c7 c8 : Value} {p : Rat × Rat} (h : CD w xs ps) (h2 : CC w (.agg #[c1, c2, c3, c4, c5, c6, c7, c8]) p.1.num p.1.den p.2.num p.2.den) : CD w (xs ++ [c1, c2, c3, c4, c5, c6, c7, c8]) (ps ++ [p]) := CD.snoc' h2 h
theorem CD.get {w : World} : ∀ {xs : List Value} {ps : List (Rat × Rat)} {i : Nat}, CD w xs ps → (h : i < ps.length) → ∃ c1 c2 c3 c4 c5 c6 c7 c8, xs[i * 8]? = some c1 ∧ xs[i * 8 + 1]? = some c2 ∧ xs[i * 8 + 2]? = some c3 ∧ xs[i * 8 + 3]? = some c4 ∧ xs[i * 8 + 4]? = some c5 ∧ xs[i * 8 + 5]? = some c6 ∧ xs[i * 8 + 6]? = some c7 ∧ xs[i * 8 + 7]? = some c8 ∧ CC w (.agg #[c1, c2, c3, c4, c5, c6, c7, c8]) ps[i].1.num ps[i].1.den ps[i].2.num ps[i].2.den
  | [], [], _, _, hi => absurd hi (Nat.not_lt_zero _)
  | c1 :: c2 :: c3 :: c4 :: c5 :: c6 :: c7 :: c8 :: xs, p :: ps, 0, h, _ => ⟨c1, c2, c3, c4, c5, c6, c7, c8, rfl, rfl, rfl, rfl, rfl, rfl, rfl, rfl, h.1⟩
  | c1 :: c2 :: c3 :: c4 :: c5 :: c6 :: c7 :: c8 :: xs, p :: ps, i + 1, h, hi => by
    obtain ⟨d1, d2, d3, d4, d5, d6, d7, d8, e1, e2, e3, e4, e5, e6, e7, e8, hp⟩ := CD.get (i := i) h.2 (by simpa using hi)
    have e : ∀ j, (c1 :: c2 :: c3 :: c4 :: c5 :: c6 :: c7 :: c8 :: xs)[(i + 1) * 8 + j]? = xs[i * 8 + j]? := fun j => by
      rw [show (i + 1) * 8 + j = i * 8 + j + 1 + 1 + 1 + 1 + 1 + 1 + 1 + 1 by omega]; rfl
    exact ⟨d1, d2, d3, d4, d5, d6, d7, d8, (e 0).trans e1, (e 1).trans e2, (e 2).trans e3, (e 3).trans e4, (e 4).trans e5, (e 5).trans e6, (e 6).trans e7, (e 7).trans e8, hp⟩
/-- The next eight cells written. -/
theorem setL_app8 {ys ws : List Value} {j : Nat} {z0 z1 z2 z3 z4 z5 z6 z7 c0 c1 c2 c3 c4 c5 c6 c7 : Value} (h : ys.length = j * 8) : setL (ys ++ (z0 :: z1 :: z2 :: z3 :: z4 :: z5 :: z6 :: z7 :: ws)) [(j * 8, c0), (j * 8 + 1, c1), (j * 8 + 2, c2), (j * 8 + 3, c3), (j * 8 + 4, c4), (j * 8 + 5, c5), (j * 8 + 6, c6), (j * 8 + 7, c7)] = (ys ++ [c0, c1, c2, c3, c4, c5, c6, c7]) ++ ws := by
  simp only [setL]
  rw [← h]
  simp [List.set_append_right]
theorem eight_of {zs : List Value} (h : 8 ≤ zs.length) : ∃ z0 z1 z2 z3 z4 z5 z6 z7 ws, zs = z0 :: z1 :: z2 :: z3 :: z4 :: z5 :: z6 :: z7 :: ws := by
  match zs, h with
  | z0 :: z1 :: z2 :: z3 :: z4 :: z5 :: z6 :: z7 :: ws, _ => exact ⟨z0, z1, z2, z3, z4, z5, z6, z7, ws, rfl⟩
/-- A list of Gaussian rationals that can be read. -/
def LQ (w : World) (o : Option Addr) (ps : List (Rat × Rat)) : Prop :=
  ps = [] ∨ ∃ g off cur ty fz, o = some ⟨g, off, none⟩ ∧ Bs w g cur ty fz ∧ ∀ i (hi : i < ps.length), ∃ c1 c2 c3 c4 c5 c6 c7 c8, cur[off + i * 8]? = some c1 ∧ cur[off + i * 8 + 1]? = some c2 ∧ cur[off + i * 8 + 2]? = some c3 ∧ cur[off + i * 8 + 3]? = some c4 ∧ cur[off + i * 8 + 4]? = some c5 ∧ cur[off + i * 8 + 5]? = some c6 ∧ cur[off + i * 8 + 6]? = some c7 ∧ cur[off + i * 8 + 7]? = some c8 ∧ CC w (.agg #[c1, c2, c3, c4, c5, c6, c7, c8]) ps[i].1.num ps[i].1.den ps[i].2.num ps[i].2.den
theorem LQ.of {w : World} {B n c : Nat} {o : Option Addr} {ty : TypeId} {xs : List Value} {ps : List (Rat × Rat)} (h : Lst w B ty 8 (.slice o n c) n xs) (hz : CD w xs ps) (hn : ps.length = n) : LQ w o ps := by
  rcases Nat.eq_zero_or_pos n with h0 | h0
  · exact .inl (List.eq_nil_of_length_eq_zero (by omega))
  · obtain ⟨g, cur, rfl, x, hc⟩ := h.box h0
    refine .inr ⟨g, 0, cur, _, _, rfl, x, fun i hi => ?_⟩
    obtain ⟨c1, c2, c3, c4, c5, c6, c7, c8, e1, e2, e3, e4, e5, e6, e7, e8, e9⟩ := hz.get hi
    exact ⟨c1, c2, c3, c4, c5, c6, c7, c8, by rw [Nat.zero_add]; exact hc _ _ e1, by rw [Nat.zero_add]; exact hc _ _ e2, by rw [Nat.zero_add]; exact hc _ _ e3, by rw [Nat.zero_add]; exact hc _ _ e4, by rw [Nat.zero_add]; exact hc _ _ e5, by rw [Nat.zero_add]; exact hc _ _ e6, by rw [Nat.zero_add]; exact hc _ _ e7, by rw [Nat.zero_add]; exact hc _ _ e8, e9⟩
theorem LQ.bl {w w' : World} {o : Option Addr} {ps : List (Rat × Rat)} (h : LQ w o ps) (hb : Below w.heap.size w w') : LQ w' o ps := by
  rcases h with h | ⟨g, off, cur, ty, fz, rfl, x, d⟩
  · exact .inl h
  · refine .inr ⟨g, off, cur, ty, fz, rfl, x.bl hb, fun i hi => ?_⟩
    obtain ⟨c1, c2, c3, c4, c5, c6, c7, c8, e1, e2, e3, e4, e5, e6, e7, e8, e9⟩ := d i hi
    exact ⟨c1, c2, c3, c4, c5, c6, c7, c8, e1, e2, e3, e4, e5, e6, e7, e8, e9.k (kb hb)⟩
section
variable {w : World} {va vb : Value} {x y u v : Int} {l m k n : Nat}
theorem fmake_r (ha : ZN w va x l) (hq : ZN w vb y m) (hl : l ≤ 100000000) (hm : m ≤ 100000000) (h0 : y ≠ 0) :
    Calls Tryz.prog 90 #[va, vb] w fun e w' => ∃ v, e = .returned (.tuple #[v, .int .i64 0]) ∧ PC w' v (rv x y).num (rv x y).den ∧ Below w.heap.size w w' := by
  have := fmake_any ha hq hl hm h0
  rw [(q_num h0).1, (q_num h0).2] at this
  exact this
set_option maxHeartbeats 4000000 in
set_option maxRecDepth 20000 in
theorem selQ1 (ha : CN w va x l y m u k v n) :
    Calls Tryz.prog 131 #[va] w fun e w' => ∃ r, e = .returned r ∧ PN w' r x l y m ∧ Below w.heap.size w w' := by
  obtain ⟨n_0a, o_0a, k_0a, c_0a, n_0b, o_0b, k_0b, c_0b, n_0c, o_0c, k_0c, c_0c, n_0d, o_0d, k_0d, c_0d, rfl, ha1, ha2, ha3, ha4⟩ := ha
  go_enter Tryz.func131, Tryz.ntmps131
  have hs := St.nil w
  refine wp_seq_k ?_
  intro K1 hK1
  refine rg [0, 1] ?_
  refine sq ?_
  refine .al hs ?_; clear hs; intro p_b1 w_1 hs n1 kb_b1
  refine sq ?_
  refine .al hs ?_; clear hs; intro p_b2 w_2 hs n2 kb_b2
  apply wpSq_end
  refine hK1 _ _ ?_
  refine wp_seq_k ?_
  intro K2 hK2
  refine rg [0, 1, 2] ?_
  refine sq ?_
  refine .r0 ?_
  refine sq ?_
  refine .r4 ⟨hs.g1.cell 0 rfl, hs.g1.cell 1 rfl, hs.g1.cell 2 rfl, hs.g1.cell 3 rfl⟩ ?_
  refine sq ?_
  refine .s4 hs.g0 (fun _ => hs.u0 kb_b2) ?_; clear hs; intro w_3 hs hd3 ho3
  apply wpSq_end
  refine hK2 _ _ ?_
  refine wp_ret ?_
  try dsimp only [Exit.then, Exit.inBlock]
  obtain ⟨r0_0, r0_1, r0_2, r0_3⟩ := hs.g0.f4
  refine bodyPost_ret (v := (.agg #[.bool n_0a, .slice o_0a k_0a c_0a, .bool n_0b, .slice o_0b k_0b c_0b])) (by simp [results, Tryz.results131, go_sem, r0_0, r0_1, r0_2, r0_3]) rfl ?_
  have k0_3 := ((kb n1).b n2).o hd3 ho3
  replace ha1 := ha1.k k0_3
  replace ha2 := ha2.k k0_3
  exact ⟨_, rfl, .mk' ha1 ha2, hs.b⟩
set_option maxHeartbeats 4000000 in
set_option maxRecDepth 20000 in
theorem selQ2 (ha : CN w va x l y m u k v n) :
    Calls Tryz.prog 132 #[va] w fun e w' => ∃ r, e = .returned r ∧ PN w' r u k v n ∧ Below w.heap.size w w' := by
  obtain ⟨n_0a, o_0a, k_0a, c_0a, n_0b, o_0b, k_0b, c_0b, n_0c, o_0c, k_0c, c_0c, n_0d, o_0d, k_0d, c_0d, rfl, ha1, ha2, ha3, ha4⟩ := ha
  go_enter Tryz.func132, Tryz.ntmps132
  have hs := St.nil w
  refine wp_seq_k ?_
  intro K1 hK1
  refine rg [0, 1] ?_
  refine sq ?_
  refine .al hs ?_; clear hs; intro p_b1 w_1 hs n1 kb_b1
  refine sq ?_
  refine .al hs ?_; clear hs; intro p_b2 w_2 hs n2 kb_b2
  apply wpSq_end
  refine hK1 _ _ ?_
  refine wp_seq_k ?_
  intro K2 hK2
  refine rg [0, 1, 2] ?_
  refine sq ?_
  refine .r0 ?_
  refine sq ?_
  refine .r4 ⟨hs.g1.cell 4 rfl, hs.g1.cell 5 rfl, hs.g1.cell 6 rfl, hs.g1.cell 7 rfl⟩ ?_
  refine sq ?_
  refine .s4 hs.g0 (fun _ => hs.u0 kb_b2) ?_; clear hs; intro w_3 hs hd3 ho3
  apply wpSq_end
  refine hK2 _ _ ?_
  refine wp_ret ?_
  try dsimp only [Exit.then, Exit.inBlock]
  obtain ⟨r0_0, r0_1, r0_2, r0_3⟩ := hs.g0.f4
  refine bodyPost_ret (v := (.agg #[.bool n_0c, .slice o_0c k_0c c_0c, .bool n_0d, .slice o_0d k_0d c_0d])) (by simp [results, Tryz.results132, go_sem, r0_0, r0_1, r0_2, r0_3]) rfl ?_
  have k0_3 := ((kb n1).b n2).o hd3 ho3
  replace ha3 := ha3.k k0_3
  replace ha4 := ha4.k k0_3
  exact ⟨_, rfl, .mk' ha3 ha4, hs.b⟩
set_option maxHeartbeats 4000000 in
set_option maxRecDepth 20000 in
theorem over_c (ha : PN w va x l y m) (hd : ZN w vb u k) :
    Calls Tryz.prog 87 #[va, vb] w fun e w' => ∃ r, e = .returned r ∧ CN w' r x l u k y m u k ∧ Below w.heap.size w w' := by
  obtain ⟨n_0a, o_0a, k_0a, c_0a, n_0b, o_0b, k_0b, c_0b, rfl, ha1, ha2⟩ := ha
  obtain ⟨n_1, o_1, k_1, c_1, rfl⟩ := hd.open2
  go_enter Tryz.func87, Tryz.ntmps87
  have hs := St.nil w
  refine wp_seq_k ?_
  intro K1 hK1
  refine rg [0, 1, 2] ?_
  refine sq ?_
  refine .al hs ?_; clear hs; intro p_b1 w_1 hs n1 kb_b1
  refine sq ?_
  refine .al hs ?_; clear hs; intro p_b2 w_2 hs n2 kb_b2
  refine sq ?_
  refine .al hs ?_; clear hs; intro p_b3 w_3 hs n3 kb_b3
  apply wpSq_end
  refine hK1 _ _ ?_
  refine wp_seq_k ?_
  intro K2 hK2
  refine rg [0, 1, 2, 3, 4, 5, 6, 7, 8, 9] ?_
  refine sq ?_
  refine .r0 ?_
  refine sq ?_
  refine .r4 hs.g2.f4 ?_
  refine sq ?_
  refine .r2 hs.g1.f2 ?_
  refine sq ?_
  refine .r0 ?_
  refine sq ?_
  refine .r0 ?_
  refine sq ?_
  refine .r4 hs.g2.f4 ?_
  refine sq ?_
  refine .r2 hs.g1.f2 ?_
  refine sq ?_
  refine .r0 ?_
  refine sq ?_
  refine .r0 ?_
  refine sq ?_
  intro K hK
  have xs := hs.g0
  have d0 : w_3.cell? ⟨p_b3, 0, none⟩ = some (.bool false) := hs.g0.cell 0 rfl
  have d1 : w_3.cell? ⟨p_b3, 1, none⟩ = some (.slice none 0 0) := hs.g0.cell 1 rfl
  have d2 : w_3.cell? ⟨p_b3, 2, none⟩ = some (.bool false) := hs.g0.cell 2 rfl
  have d3 : w_3.cell? ⟨p_b3, 3, none⟩ = some (.slice none 0 0) := hs.g0.cell 3 rfl
  have d4 : w_3.cell? ⟨p_b3, 4, none⟩ = some (.bool false) := hs.g0.cell 4 rfl
  have d5 : w_3.cell? ⟨p_b3, 5, none⟩ = some (.slice none 0 0) := hs.g0.cell 5 rfl
  have d6 : w_3.cell? ⟨p_b3, 6, none⟩ = some (.bool false) := hs.g0.cell 6 rfl
  have d7 : w_3.cell? ⟨p_b3, 7, none⟩ = some (.slice none 0 0) := hs.g0.cell 7 rfl
  have f0 := xs.free 0; have f1 := xs.free 1; have f2 := xs.free 2; have f3 := xs.free 3; have f4 := xs.free 4; have f5 := xs.free 5; have f6 := xs.free 6; have f7 := xs.free 7
  go_big_op
  have hd4 := xs.nod rfl rfl
  obtain ⟨w_4_0, eW, xs_0, ho_0⟩ : ∃ w', ((((w_3.setCell ⟨p_b3, 0, none⟩ (.bool n_0a)).setCell ⟨p_b3, 1, none⟩ (.slice o_0a k_0a c_0a)).setCell ⟨p_b3, 2, none⟩ (.bool n_1)).setCell ⟨p_b3, 3, none⟩ (.slice o_1 k_1 c_1)) = w' ∧ Bs w' p_b3 #[.bool n_0a, .slice o_0a k_0a c_0a, .bool n_1, .slice o_1 k_1 c_1, .bool false, .slice none 0 0, .bool false, .slice none 0 0] 55 ∧ Only p_b3 w_3 w' := xs.setN [(0, .bool n_0a), (1, .slice o_0a k_0a c_0a), (2, .bool n_1), (3, .slice o_1 k_1 c_1)]
  rw [eW]; clear eW
  obtain ⟨w_4, eW, xs', ho_4⟩ : ∃ w', ((((w_4_0.setCell ⟨p_b3, 4, none⟩ (.bool n_0b)).setCell ⟨p_b3, 5, none⟩ (.slice o_0b k_0b c_0b)).setCell ⟨p_b3, 6, none⟩ (.bool n_1)).setCell ⟨p_b3, 7, none⟩ (.slice o_1 k_1 c_1)) = w' ∧ Bs w' p_b3 #[.bool n_0a, .slice o_0a k_0a c_0a, .bool n_1, .slice o_1 k_1 c_1, .bool n_0b, .slice o_0b k_0b c_0b, .bool n_1, .slice o_1 k_1 c_1] 55 ∧ Only p_b3 w_4_0 w' := xs_0.setN [(4, .bool n_0b), (5, .slice o_0b k_0b c_0b), (6, .bool n_1), (7, .slice o_1 k_1 c_1)]
  rw [eW]; clear eW xs_0
  have ho4 := (ho_0.trans ho_4)
  clear ho_0 ho_4 d0 d1 d2 d3 d4 d5 d6 d7 f0 f1 f2 f3 f4 f5 f6 f7 xs
  replace hs := hs.u0 kb_b3 xs' ho4; clear xs'
  refine hK _ _ rfl trivial ?_; clear hK K
  apply wpSq_end
  refine hK2 _ _ ?_
  refine wp_ret ?_
  try dsimp only [Exit.then, Exit.inBlock]
  have r0_0 : w_4.cell? ⟨p_b3, 0, none⟩ = some (.bool n_0a) := hs.g0.cell 0 rfl
  have r0_1 : w_4.cell? ⟨p_b3, 1, none⟩ = some (.slice o_0a k_0a c_0a) := hs.g0.cell 1 rfl
  have r0_2 : w_4.cell? ⟨p_b3, 2, none⟩ = some (.bool n_1) := hs.g0.cell 2 rfl
  have r0_3 : w_4.cell? ⟨p_b3, 3, none⟩ = some (.slice o_1 k_1 c_1) := hs.g0.cell 3 rfl
  have r0_4 : w_4.cell? ⟨p_b3, 4, none⟩ = some (.bool n_0b) := hs.g0.cell 4 rfl
  have r0_5 : w_4.cell? ⟨p_b3, 5, none⟩ = some (.slice o_0b k_0b c_0b) := hs.g0.cell 5 rfl
  have r0_6 : w_4.cell? ⟨p_b3, 6, none⟩ = some (.bool n_1) := hs.g0.cell 6 rfl
  have r0_7 : w_4.cell? ⟨p_b3, 7, none⟩ = some (.slice o_1 k_1 c_1) := hs.g0.cell 7 rfl
  refine bodyPost_ret (v := (.agg #[.bool n_0a, .slice o_0a k_0a c_0a, .bool n_1, .slice o_1 k_1 c_1, .bool n_0b, .slice o_0b k_0b c_0b, .bool n_1, .slice o_1 k_1 c_1])) (by simp [results, Tryz.results87, go_sem, r0_0, r0_1, r0_2, r0_3, r0_4, r0_5, r0_6, r0_7]) rfl ?_
  have k0_4 := (((kb n1).b n2).b n3).o hd4 ho4
  replace ha1 := ha1.k k0_4
  replace hd := hd.k k0_4
  replace ha2 := ha2.k k0_4
  exact ⟨_, rfl, .mk' ha1 hd ha2 hd, hs.b⟩
end
section
variable {w : World} {f : Nat} {caps : Array Value} {a b c d : Int}
/-- A closure that tells what a call makes of one part. -/
def Tells (w : World) (f : Nat) (caps : Array Value) (s : Nat) (a b : Int) : Prop :=
  ∀ w1, Below w.heap.size w w1 → Calls Tryz.prog f (#[.func (.func s) #[] #[]] ++ caps) w1 fun e w2 => ∃ r, e = .returned (.tuple #[r, .int .i64 0]) ∧ PC w2 r a b ∧ Below w1.heap.size w1 w2
def Enters (f : Nat) (caps : Array Value) : Prop := ∀ v w1, Sem.run Tryz.prog (callFunc f (#[v] ++ caps)) w1 = .ok (.enter f (#[v] ++ caps)) w1
set_option maxHeartbeats 4000000 in
set_option maxRecDepth 20000 in
theorem bothQ_ok (hf : Enters f caps) (hc1 : Tells w f caps 131 a b) (hc2 : Tells w f caps 132 c d) :
    Calls Tryz.prog 123 #[.func (.func f) #[] caps] w fun e w' => ∃ r s, e = .returned (.tuple #[r, s, .int .i64 0]) ∧ PC w' r a b ∧ PC w' s c d ∧ Below w.heap.size w w' := by
  unfold Enters at hf
  go_enter Tryz.func123, Tryz.ntmps123
  have hs := St.nil w
  refine wp_seq_k ?_
  intro K1 hK1
  refine rg [0, 1, 2] ?_
  refine sq ?_
  refine .al hs ?_; clear hs; intro p_b1 w_1 hs n1 kb_b1
  refine sq ?_
  refine .al hs ?_; clear hs; intro p_b2 w_2 hs n2 kb_b2
  refine sq ?_
  refine .mv ?_
  apply wpSq_end
  refine hK1 _ _ ?_
  refine wp_seq_k ?_
  intro K2 hK2
  refine rg [0] ?_
  refine sq ?_
  refine .al hs ?_; clear hs; intro p_b3 w_3 hs n3 kb_b3
  apply wpSq_end
  refine hK2 _ _ ?_
  refine wp_seq_k ?_
  intro K3 hK3
  refine rg [0, 1, 2, 3, 4, 5, 6] ?_
  refine sq ?_
  refine .mv ?_
  refine sq ?_
  intro K hK
  have hb := hs.b
  go_big_op
  go_fit (hc1 _ hb)
  rintro e w_4 ⟨_, rfl, ⟨n_ga, o_ga, k_ga, c_ga, n_gb, o_gb, k_gb, c_gb, rfl, g1, g2⟩, hb_4⟩
  clear hb
  replace hs := hs.bl hb_4
  refine hK _ _ rfl trivial ?_
  clear hK K
  refine sq ?_
  refine .mv ?_
  refine sq ?_
  refine .r0 ?_
  refine sq ?_
  refine .r0 ?_
  refine sq ?_
  refine .s4 hs.g2 (fun _ => hs.u2 kb_b1) ?_; clear hs; intro w_5 hs hd5 ho5
  refine sq ?_
  refine .mv ?_
  apply wpSq_end
  refine hK3 _ _ ?_
  refine wp_seq_k ?_
  intro K4 hK4
  refine wp_seq_k ?_
  intro K5 hK5
  refine rg [0, 1] ?_
  refine sq ?_
  refine .mv ?_
  refine sq ?_
  refine .r0 ?_
  apply wpSq_end
  refine hK5 _ _ ?_
  refine cf ?_
  refine wp_skip ?_
  refine hK4 _ _ ?_
  refine wp_seq_k ?_
  intro K6 hK6
  refine rg [0, 1, 2, 3, 4, 5, 6] ?_
  refine sq ?_
  refine .mv ?_
  refine sq ?_
  intro K hK
  have hb := hs.b
  go_big_op
  go_fit (hc2 _ hb)
  rintro e w_6 ⟨_, rfl, ⟨n_ha, o_ha, k_ha, c_ha, n_hb, o_hb, k_hb, c_hb, rfl, h1, h2⟩, hb_6⟩
  clear hb
  replace hs := hs.bl hb_6
  refine hK _ _ rfl trivial ?_
  clear hK K
  refine sq ?_
  refine .mv ?_
  refine sq ?_
  refine .r0 ?_
  refine sq ?_
  refine .r0 ?_
  refine sq ?_
  refine .s4 hs.g1 (fun _ => hs.u1 kb_b2) ?_; clear hs; intro w_7 hs hd7 ho7
  refine sq ?_
  refine .mv ?_
  apply wpSq_end
  refine hK6 _ _ ?_
  refine wp_seq_k ?_
  intro K7 hK7
  refine wp_seq_k ?_
  intro K8 hK8
  refine rg [0, 1] ?_
  refine sq ?_
  refine .mv ?_
  refine sq ?_
  refine .r0 ?_
  apply wpSq_end
  refine hK8 _ _ ?_
  refine cf ?_
  refine wp_skip ?_
  refine hK7 _ _ ?_
  refine wp_seq_k ?_
  intro K9 hK9
  refine wp_region_f4 [(0, false), (1, false)] [2, 3, 4] [] (fun _ => default) [0, 1, 99, 99, 99] [(2, 0), (3, 0), (3, 1), (4, 0), (4, 1)] (.c hs.g2 (.c hs.g1 .n)) fn fun w_8 n8 => ?_
  replace hs := hs.bl n8
  refine f4 ?_
  refine f4 ?_
  refine e0 hs ?_; clear hs; intro w_9 hs n9
  refine tl ?_
  refine .s4 hs.g2 (fun _ => hs.u2 kb_b1) ?_ (e := fun _ hs => (And.intro True.intro (And.intro hs.g1 True.intro))); clear hs; intro w_10 hs hd10 ho10
  refine tl ?_
  refine .s4 hs.g1 (fun _ => hs.u1 kb_b2) ?_ (e := fun _ hs => (And.intro True.intro (And.intro True.intro True.intro))); clear hs; intro w_11 hs hd11 ho11
  refine tl ?_
  refine .mv ?_ (e := (And.intro True.intro (And.intro True.intro True.intro)))
  apply wpTail_end
  refine hK9 _ _ ?_
  refine wp_ret ?_
  try dsimp only [Exit.then, Exit.inBlock]
  obtain ⟨r0_0, r0_1, r0_2, r0_3⟩ := hs.g2.f4
  obtain ⟨r4_0, r4_1, r4_2, r4_3⟩ := hs.g1.f4
  refine bodyPost_ret (v := (.tuple #[(.agg #[.bool n_ga, .slice o_ga k_ga c_ga, .bool n_gb, .slice o_gb k_gb c_gb]), (.agg #[.bool n_ha, .slice o_ha k_ha c_ha, .bool n_hb, .slice o_hb k_hb c_hb]), (.int .i64 0)])) (by simp [results, Tryz.results123, go_sem, r0_0, r0_1, r0_2, r0_3, r4_0, r4_1, r4_2, r4_3]) rfl ?_
  have k4_11 := ((((((ko hd5 ho5).b hb_6).o hd7 ho7).b n8).b n9).o hd10 ho10).o hd11 ho11
  replace g1 := g1.k k4_11
  replace g2 := g2.k k4_11
  have k6_11 := ((((ko hd7 ho7).b n8).b n9).o hd10 ho10).o hd11 ho11
  replace h1 := h1.k k6_11
  replace h2 := h2.k k6_11
  exact ⟨_, _, rfl, .mk' g1 g2, .mk' h1 h2, hs.b⟩
theorem Tells.at {w w' : World} {s : Nat} (h : Tells w f caps s a b) (hb : Below w.heap.size w w') : Tells w' f caps s a b := fun w1 h1 => h w1 (hb.trans (h1.mono hb.size))
set_option maxHeartbeats 4000000 in
set_option maxRecDepth 20000 in
theorem number_ok (hf : Enters f caps) (hc1 : Tells w f caps 131 a b) (hc2 : Tells w f caps 132 c d) :
    Calls Tryz.prog 110 #[.func (.func f) #[] caps] w fun e w' => ∃ r, e = .returned (.tuple #[r, .int .i64 0]) ∧ CC w' r a b c d ∧ Below w.heap.size w w' := by
  go_enter Tryz.func110, Tryz.ntmps110
  have hs := St.nil w
  refine wp_seq_k ?_
  intro K1 hK1
  refine rg [0, 1] ?_
  refine sq ?_
  refine .al hs ?_; clear hs; intro p_b1 w_1 hs n1 kb_b1
  refine sq ?_
  refine .mv ?_
  apply wpSq_end
  refine hK1 _ _ ?_
  refine wp_seq_k ?_
  intro K2 hK2
  refine rg [0, 1, 2, 3, 4, 5, 6, 7, 8, 9, 10] ?_
  refine sq ?_
  refine .mv ?_
  refine sq ?_
  intro K hK
  have hb := hs.b
  go_big_op
  go_fit (bothQ_ok hf (hc1.at hb) (hc2.at hb))
  rintro e w_2 ⟨_, _, rfl, ⟨n_ga, o_ga, k_ga, c_ga, n_gb, o_gb, k_gb, c_gb, rfl, g1, g2⟩, ⟨n_ha, o_ha, k_ha, c_ha, n_hb, o_hb, k_hb, c_hb, rfl, h1, h2⟩, hb_2⟩
  clear hb
  replace hs := hs.bl hb_2
  refine hK _ _ rfl trivial ?_
  clear hK K
  refine sq ?_
  refine .mv ?_
  refine sq ?_
  refine .r0 ?_
  refine sq ?_
  refine .r0 ?_
  refine sq ?_
  refine .r0 ?_
  refine sq ?_
  refine .al hs ?_; clear hs; intro p_b2 w_3 hs n3 kb_b2
  refine sq ?_
  refine .al hs ?_; clear hs; intro p_b3 w_4 hs n4 kb_b3
  refine sq ?_
  refine .s4 hs.g1 (fun _ => hs.u1 kb_b2) ?_; clear hs; intro w_5 hs hd5 ho5
  refine sq ?_
  refine .s4 hs.g0 (fun _ => hs.u0 kb_b3) ?_; clear hs; intro w_6 hs hd6 ho6
  refine sq ?_
  refine .mv ?_
  apply wpSq_end
  refine hK2 _ _ ?_
  refine wp_seq_k ?_
  intro K3 hK3
  refine rg [0, 1, 2, 3, 4, 5] ?_
  refine sq ?_
  refine .r4 hs.g1.f4 ?_
  refine sq ?_
  refine .r4 hs.g0.f4 ?_
  refine sq ?_
  refine .r0 ?_
  refine sq ?_
  refine .mv ?_
  refine sq ?_
  intro K hK
  have xs := hs.g2
  have d0 : w_6.cell? ⟨p_b1, 0, none⟩ = some (.bool false) := hs.g2.cell 0 rfl
  have d1 : w_6.cell? ⟨p_b1, 1, none⟩ = some (.slice none 0 0) := hs.g2.cell 1 rfl
  have d2 : w_6.cell? ⟨p_b1, 2, none⟩ = some (.bool false) := hs.g2.cell 2 rfl
  have d3 : w_6.cell? ⟨p_b1, 3, none⟩ = some (.slice none 0 0) := hs.g2.cell 3 rfl
  have d4 : w_6.cell? ⟨p_b1, 4, none⟩ = some (.bool false) := hs.g2.cell 4 rfl
  have d5 : w_6.cell? ⟨p_b1, 5, none⟩ = some (.slice none 0 0) := hs.g2.cell 5 rfl
  have d6 : w_6.cell? ⟨p_b1, 6, none⟩ = some (.bool false) := hs.g2.cell 6 rfl
  have d7 : w_6.cell? ⟨p_b1, 7, none⟩ = some (.slice none 0 0) := hs.g2.cell 7 rfl
  have f0 := xs.free 0; have f1 := xs.free 1; have f2 := xs.free 2; have f3 := xs.free 3; have f4 := xs.free 4; have f5 := xs.free 5; have f6 := xs.free 6; have f7 := xs.free 7
  go_big_op
  have hd7 := xs.nod rfl rfl
  obtain ⟨w_7_0, eW, xs_0, ho_0⟩ : ∃ w', ((((w_6.setCell ⟨p_b1, 0, none⟩ (.bool n_ga)).setCell ⟨p_b1, 1, none⟩ (.slice o_ga k_ga c_ga)).setCell ⟨p_b1, 2, none⟩ (.bool n_gb)).setCell ⟨p_b1, 3, none⟩ (.slice o_gb k_gb c_gb)) = w' ∧ Bs w' p_b1 #[.bool n_ga, .slice o_ga k_ga c_ga, .bool n_gb, .slice o_gb k_gb c_gb, .bool false, .slice none 0 0, .bool false, .slice none 0 0] 55 ∧ Only p_b1 w_6 w' := xs.setN [(0, .bool n_ga), (1, .slice o_ga k_ga c_ga), (2, .bool n_gb), (3, .slice o_gb k_gb c_gb)]
  rw [eW]; clear eW
  obtain ⟨w_7, eW, xs', ho_4⟩ : ∃ w', ((((w_7_0.setCell ⟨p_b1, 4, none⟩ (.bool n_ha)).setCell ⟨p_b1, 5, none⟩ (.slice o_ha k_ha c_ha)).setCell ⟨p_b1, 6, none⟩ (.bool n_hb)).setCell ⟨p_b1, 7, none⟩ (.slice o_hb k_hb c_hb)) = w' ∧ Bs w' p_b1 #[.bool n_ga, .slice o_ga k_ga c_ga, .bool n_gb, .slice o_gb k_gb c_gb, .bool n_ha, .slice o_ha k_ha c_ha, .bool n_hb, .slice o_hb k_hb c_hb] 55 ∧ Only p_b1 w_7_0 w' := xs_0.setN [(4, .bool n_ha), (5, .slice o_ha k_ha c_ha), (6, .bool n_hb), (7, .slice o_hb k_hb c_hb)]
  rw [eW]; clear eW xs_0
  have ho7 := (ho_0.trans ho_4)
  clear ho_0 ho_4 d0 d1 d2 d3 d4 d5 d6 d7 f0 f1 f2 f3 f4 f5 f6 f7 xs
  replace hs := hs.u2 kb_b1 xs' ho7; clear xs'
  refine hK _ _ rfl trivial ?_; clear hK K
  refine sq ?_
  refine .mv ?_
  apply wpSq_end
  refine hK3 _ _ ?_
  refine wp_ret ?_
  try dsimp only [Exit.then, Exit.inBlock]
  have r0_0 : w_7.cell? ⟨p_b1, 0, none⟩ = some (.bool n_ga) := hs.g2.cell 0 rfl
  have r0_1 : w_7.cell? ⟨p_b1, 1, none⟩ = some (.slice o_ga k_ga c_ga) := hs.g2.cell 1 rfl
  have r0_2 : w_7.cell? ⟨p_b1, 2, none⟩ = some (.bool n_gb) := hs.g2.cell 2 rfl
  have r0_3 : w_7.cell? ⟨p_b1, 3, none⟩ = some (.slice o_gb k_gb c_gb) := hs.g2.cell 3 rfl
  have r0_4 : w_7.cell? ⟨p_b1, 4, none⟩ = some (.bool n_ha) := hs.g2.cell 4 rfl
  have r0_5 : w_7.cell? ⟨p_b1, 5, none⟩ = some (.slice o_ha k_ha c_ha) := hs.g2.cell 5 rfl
  have r0_6 : w_7.cell? ⟨p_b1, 6, none⟩ = some (.bool n_hb) := hs.g2.cell 6 rfl
  have r0_7 : w_7.cell? ⟨p_b1, 7, none⟩ = some (.slice o_hb k_hb c_hb) := hs.g2.cell 7 rfl
  refine bodyPost_ret (v := (.tuple #[(.agg #[.bool n_ga, .slice o_ga k_ga c_ga, .bool n_gb, .slice o_gb k_gb c_gb, .bool n_ha, .slice o_ha k_ha c_ha, .bool n_hb, .slice o_hb k_hb c_hb]), (.int .i64 0)])) (by simp [results, Tryz.results110, go_sem, r0_0, r0_1, r0_2, r0_3, r0_4, r0_5, r0_6, r0_7]) rfl ?_
  have k2_7 := ((((kb n3).b n4).o hd5 ho5).o hd6 ho6).o hd7 ho7
  replace g1 := g1.k k2_7
  replace g2 := g2.k k2_7
  replace h1 := h1.k k2_7
  replace h2 := h2.k k2_7
  exact ⟨_, rfl, .mk' g1 g2 h1 h2, hs.b⟩
end
section
variable {w : World} {va vb : Value} {x y u v p q s t : Int} {l m k n l2 m2 k2 n2 : Nat}
/-- A block that holds a number. -/
def BC (w : World) (pa : Nat) (x : Int) (l : Nat) (y : Int) (m : Nat) (u : Int) (k : Nat) (v : Int) (n : Nat) : Prop :=
  ∃ n1 o1 k1 c1 n2 o2 k2 c2 n3 o3 k3 c3 n4 o4 k4 c4, Bs w pa #[.bool n1, .slice o1 k1 c1, .bool n2, .slice o2 k2 c2, .bool n3, .slice o3 k3 c3, .bool n4, .slice o4 k4 c4] 55 ∧ ZN w (.agg #[.bool n1, .slice o1 k1 c1]) x l ∧ ZN w (.agg #[.bool n2, .slice o2 k2 c2]) y m ∧ ZN w (.agg #[.bool n3, .slice o3 k3 c3]) u k ∧ ZN w (.agg #[.bool n4, .slice o4 k4 c4]) v n
theorem BC.mk' {pa : Nat} {n1 n2 n3 n4 : Bool} {o1 o2 o3 o4 : Option Addr} {k1 c1 k2 c2 k3 c3 k4 c4 : Nat} (hb : Bs w pa #[.bool n1, .slice o1 k1 c1, .bool n2, .slice o2 k2 c2, .bool n3, .slice o3 k3 c3, .bool n4, .slice o4 k4 c4] 55) (h1 : ZN w (.agg #[.bool n1, .slice o1 k1 c1]) x l) (h2 : ZN w (.agg #[.bool n2, .slice o2 k2 c2]) y m) (h3 : ZN w (.agg #[.bool n3, .slice o3 k3 c3]) u k) (h4 : ZN w (.agg #[.bool n4, .slice o4 k4 c4]) v n) : BC w pa x l y m u k v n :=
  ⟨_, _, _, _, _, _, _, _, _, _, _, _, _, _, _, _, hb, h1, h2, h3, h4⟩
set_option maxHeartbeats 4000000 in
set_option maxRecDepth 20000 in
theorem low1_ok1 {pa : Nat} (hp : BC w pa x l y m u k v n) (hl : l ≤ 100000000) (hm : m ≤ 100000000) (hk : k ≤ 100000000) (hn : n ≤ 100000000) (h0 : y ≠ 0) :
    Calls Tryz.prog 111 (#[.func (.func 131) #[] #[]] ++ #[.pointer (some ⟨pa, 0, none⟩)]) w fun e w' => ∃ r, e = .returned (.tuple #[r, .int .i64 0]) ∧ PC w' r (rv x y).num (rv x y).den ∧ Below w.heap.size w w' := by
  have H0 := hide h0
  clear h0
  obtain ⟨n1, o1, k1, c1, n2, o2, k2, c2, n3, o3, k3, c3, n4, o4, k4, c4, xa, h1, h2, h3, h4⟩ := hp
  show Calls Tryz.prog 111 #[.func (.func 131) #[] #[], .pointer (some ⟨pa, 0, none⟩)] w _
  go_enter Tryz.func111, Tryz.ntmps111
  have hs := St.nil w
  have lt_xa := xa.lt
  have xaz := xa
  refine wp_seq_k ?_
  intro K1 hK1
  refine rg [0, 1] ?_
  refine sq ?_
  refine .al hs ?_; clear hs; intro p_b1 w_1 hs n1 kb_b1
  replace xa := xa.bl n1
  refine sq ?_
  refine .mv ?_
  apply wpSq_end
  refine hK1 _ _ ?_
  refine wp_seq_k ?_
  intro K2 hK2
  refine wp_region_f4 [(0, false), (1, false), (4, false), (5, false), (2, true), (3, false), (6, true), (7, false), (8, true), (9, false), (10, false)] [11, 12] [] (fun _ => default) [99, 0, 99, 99, 99, 0, 99, 99, 99, 99, 99, 99, 99] [] (.c xa .n) fn fun w_2 n2 => ?_
  replace xa := xa.bl n2; replace hs := hs.bl n2
  refine fmv ?_
  apply wpFl_ld rfl rfl; (case h1 => intro w' hC K hK; have c0 := Bs.cell hC 0 rfl; have c1 := Bs.cell hC 1 rfl; have c2 := Bs.cell hC 2 rfl; have c3 := Bs.cell hC 3 rfl; have c4 := Bs.cell hC 4 rfl; have c5 := Bs.cell hC 5 rfl; have c6 := Bs.cell hC 6 rfl; have c7 := Bs.cell hC 7 rfl; go_big_op; exact hK); iterate 4 kernel_rfl
  refine fmv ?_
  apply wpFl_ld rfl rfl; (case h1 => intro w' hC K hK; have c0 := Bs.cell hC 0 rfl; have c1 := Bs.cell hC 1 rfl; have c2 := Bs.cell hC 2 rfl; have c3 := Bs.cell hC 3 rfl; have c4 := Bs.cell hC 4 rfl; have c5 := Bs.cell hC 5 rfl; have c6 := Bs.cell hC 6 rfl; have c7 := Bs.cell hC 7 rfl; go_big_op; exact hK); iterate 4 kernel_rfl
  refine fl fun w_3 n3 => ?_
  replace xa := xa.bl n3; replace hs := hs.bl n3
  intro K hK
  have k0_3 := ((kb n1).b n2).b n3
  replace h1 := h1.k k0_3
  replace h2 := h2.k k0_3
  replace h3 := h3.k k0_3
  replace h4 := h4.k k0_3
  go_big_op
  go_fit (selQ1 (.mk' h1 h2 h3 h4))
  rintro e w_4 ⟨_, rfl, ⟨n_gaa, o_gaa, k_gaa, c_gaa, n_gab, o_gab, k_gab, c_gab, rfl, ga1, ga2⟩, hb_4⟩
  replace xa := xa.bl hb_4; replace hs := hs.bl hb_4
  refine hK _ _ rfl ⟨hb_4, (And.intro xa trivial)⟩ ?_
  clear hK K
  apply wpFl_ld rfl rfl; (case h1 => intro w' hC K hK; go_big_op; rw [(?eX : Sem.run _ (Instr.field _ _ _) _ = Result.ok (.agg #[.bool n_gaa, .slice o_gaa k_gaa c_gaa]) w')]; (case eX => kernel_rfl); simp only [Result.andThen, Oper.upon, Act.put, List.setIfInBounds_toArray, List.set_cons_succ, List.set_cons_zero]; exact hK); iterate 4 kernel_rfl
  refine fl fun w_5 n5 => ?_
  replace xa := xa.bl n5; replace hs := hs.bl n5
  intro K hK
  have k3_5 := (kb hb_4).b n5
  replace h1 := h1.k k3_5
  replace h2 := h2.k k3_5
  replace h3 := h3.k k3_5
  replace h4 := h4.k k3_5
  go_big_op
  go_fit (selQ1 (.mk' h1 h2 h3 h4))
  rintro e w_6 ⟨_, rfl, ⟨n_gba, o_gba, k_gba, c_gba, n_gbb, o_gbb, k_gbb, c_gbb, rfl, gb1, gb2⟩, hb_6⟩
  replace xa := xa.bl hb_6; replace hs := hs.bl hb_6
  refine hK _ _ rfl ⟨hb_6, (And.intro xa trivial)⟩ ?_
  clear hK K
  apply wpFl_ld rfl rfl; (case h1 => intro w' hC K hK; go_big_op; rw [(?eX : Sem.run _ (Instr.field _ _ _) _ = Result.ok (.agg #[.bool n_gbb, .slice o_gbb k_gbb c_gbb]) w')]; (case eX => kernel_rfl); simp only [Result.andThen, Oper.upon, Act.put, List.setIfInBounds_toArray, List.set_cons_succ, List.set_cons_zero]; exact hK); iterate 4 kernel_rfl
  refine fl fun w_7 n7 => ?_
  replace xa := xa.bl n7; replace hs := hs.bl n7
  intro K hK
  have k4_7 := ((kb n5).b hb_6).b n7
  replace ga1 := ga1.k k4_7
  have k6_7 := kb n7
  replace gb2 := gb2.k k6_7
  go_big_op
  go_fit (fmake_r ga1 gb2 (by omega) (by omega) H0.out)
  rintro e w_8 ⟨_, rfl, ⟨n_ra, o_ra, k_ra, c_ra, n_rb, o_rb, k_rb, c_rb, rfl, r1, r2⟩, hb_8⟩
  replace xa := xa.bl hb_8; replace hs := hs.bl hb_8
  have Lr1 := hide (r1.lenOf ((r_len (H0.out) rfl (ga1.len) (gb2.len)).1))
  have Lr2 := hide (r2.lenOf ((r_len (H0.out) rfl (ga1.len) (gb2.len)).2))
  refine hK _ _ rfl ⟨hb_8, (And.intro xa trivial)⟩ ?_
  clear hK K
  refine f0 ?_
  refine f0 ?_
  refine e0 hs ?_; clear hs; intro w_9 hs n9
  replace xa := xa.bl n9
  refine tl ?_
  refine .s4 hs.g0 (fun _ => hs.u0 kb_b1) ?_ (e := fun _ hs => (And.intro (xaz.bl hs.b) True.intro)); clear hs; intro w_10 hs hd10 ho10
  replace xa := xa.frame ho10 (Nat.ne_of_lt (Nat.lt_of_lt_of_le lt_xa kb_b1))
  refine tl ?_
  refine .mv ?_ (e := (And.intro (xaz.bl hs.b) True.intro))
  apply wpTail_end
  refine hK2 _ _ ?_
  refine wp_ret ?_
  try dsimp only [Exit.then, Exit.inBlock]
  obtain ⟨r0_0, r0_1, r0_2, r0_3⟩ := hs.g0.f4
  refine bodyPost_ret (v := (.tuple #[(.agg #[.bool n_ra, .slice o_ra k_ra c_ra, .bool n_rb, .slice o_rb k_rb c_rb]), (.int .i64 0)])) (by simp [results, Tryz.results111, go_sem, r0_0, r0_1, r0_2, r0_3]) rfl ?_
  have k8_10 := (kb n9).o hd10 ho10
  replace r1 := r1.k k8_10
  replace r2 := r2.k k8_10
  exact ⟨_, rfl, .mk' r1 r2, hs.b⟩
set_option maxHeartbeats 4000000 in
set_option maxRecDepth 20000 in
theorem low1_ok2 {pa : Nat} (hp : BC w pa x l y m u k v n) (hl : l ≤ 100000000) (hm : m ≤ 100000000) (hk : k ≤ 100000000) (hn : n ≤ 100000000) (h0 : v ≠ 0) :
    Calls Tryz.prog 111 (#[.func (.func 132) #[] #[]] ++ #[.pointer (some ⟨pa, 0, none⟩)]) w fun e w' => ∃ r, e = .returned (.tuple #[r, .int .i64 0]) ∧ PC w' r (rv u v).num (rv u v).den ∧ Below w.heap.size w w' := by
  have H0 := hide h0
  clear h0
  obtain ⟨n1, o1, k1, c1, n2, o2, k2, c2, n3, o3, k3, c3, n4, o4, k4, c4, xa, h1, h2, h3, h4⟩ := hp
  show Calls Tryz.prog 111 #[.func (.func 132) #[] #[], .pointer (some ⟨pa, 0, none⟩)] w _
  go_enter Tryz.func111, Tryz.ntmps111
  have hs := St.nil w
  have lt_xa := xa.lt
  have xaz := xa
  refine wp_seq_k ?_
  intro K1 hK1
  refine rg [0, 1] ?_
  refine sq ?_
  refine .al hs ?_; clear hs; intro p_b1 w_1 hs n1 kb_b1
  replace xa := xa.bl n1
  refine sq ?_
  refine .mv ?_
  apply wpSq_end
  refine hK1 _ _ ?_
  refine wp_seq_k ?_
  intro K2 hK2
  refine wp_region_f4 [(0, false), (1, false), (4, false), (5, false), (2, true), (3, false), (6, true), (7, false), (8, true), (9, false), (10, false)] [11, 12] [] (fun _ => default) [99, 0, 99, 99, 99, 0, 99, 99, 99, 99, 99, 99, 99] [] (.c xa .n) fn fun w_2 n2 => ?_
  replace xa := xa.bl n2; replace hs := hs.bl n2
  refine fmv ?_
  apply wpFl_ld rfl rfl; (case h1 => intro w' hC K hK; have c0 := Bs.cell hC 0 rfl; have c1 := Bs.cell hC 1 rfl; have c2 := Bs.cell hC 2 rfl; have c3 := Bs.cell hC 3 rfl; have c4 := Bs.cell hC 4 rfl; have c5 := Bs.cell hC 5 rfl; have c6 := Bs.cell hC 6 rfl; have c7 := Bs.cell hC 7 rfl; go_big_op; exact hK); iterate 4 kernel_rfl
  refine fmv ?_
  apply wpFl_ld rfl rfl; (case h1 => intro w' hC K hK; have c0 := Bs.cell hC 0 rfl; have c1 := Bs.cell hC 1 rfl; have c2 := Bs.cell hC 2 rfl; have c3 := Bs.cell hC 3 rfl; have c4 := Bs.cell hC 4 rfl; have c5 := Bs.cell hC 5 rfl; have c6 := Bs.cell hC 6 rfl; have c7 := Bs.cell hC 7 rfl; go_big_op; exact hK); iterate 4 kernel_rfl
  refine fl fun w_3 n3 => ?_
  replace xa := xa.bl n3; replace hs := hs.bl n3
  intro K hK
  have k0_3 := ((kb n1).b n2).b n3
  replace h1 := h1.k k0_3
  replace h2 := h2.k k0_3
  replace h3 := h3.k k0_3
  replace h4 := h4.k k0_3
  go_big_op
  go_fit (selQ2 (.mk' h1 h2 h3 h4))
  rintro e w_4 ⟨_, rfl, ⟨n_gaa, o_gaa, k_gaa, c_gaa, n_gab, o_gab, k_gab, c_gab, rfl, ga1, ga2⟩, hb_4⟩
  replace xa := xa.bl hb_4; replace hs := hs.bl hb_4
  refine hK _ _ rfl ⟨hb_4, (And.intro xa trivial)⟩ ?_
  clear hK K
  apply wpFl_ld rfl rfl; (case h1 => intro w' hC K hK; go_big_op; rw [(?eX : Sem.run _ (Instr.field _ _ _) _ = Result.ok (.agg #[.bool n_gaa, .slice o_gaa k_gaa c_gaa]) w')]; (case eX => kernel_rfl); simp only [Result.andThen, Oper.upon, Act.put, List.setIfInBounds_toArray, List.set_cons_succ, List.set_cons_zero]; exact hK); iterate 4 kernel_rfl
  refine fl fun w_5 n5 => ?_
  replace xa := xa.bl n5; replace hs := hs.bl n5
  intro K hK
  have k3_5 := (kb hb_4).b n5
  replace h1 := h1.k k3_5
  replace h2 := h2.k k3_5
  replace h3 := h3.k k3_5
  replace h4 := h4.k k3_5
  go_big_op
  go_fit (selQ2 (.mk' h1 h2 h3 h4))
  rintro e w_6 ⟨_, rfl, ⟨n_gba, o_gba, k_gba, c_gba, n_gbb, o_gbb, k_gbb, c_gbb, rfl, gb1, gb2⟩, hb_6⟩
  replace xa := xa.bl hb_6; replace hs := hs.bl hb_6
  refine hK _ _ rfl ⟨hb_6, (And.intro xa trivial)⟩ ?_
  clear hK K
  apply wpFl_ld rfl rfl; (case h1 => intro w' hC K hK; go_big_op; rw [(?eX : Sem.run _ (Instr.field _ _ _) _ = Result.ok (.agg #[.bool n_gbb, .slice o_gbb k_gbb c_gbb]) w')]; (case eX => kernel_rfl); simp only [Result.andThen, Oper.upon, Act.put, List.setIfInBounds_toArray, List.set_cons_succ, List.set_cons_zero]; exact hK); iterate 4 kernel_rfl
  refine fl fun w_7 n7 => ?_
  replace xa := xa.bl n7; replace hs := hs.bl n7
  intro K hK
  have k4_7 := ((kb n5).b hb_6).b n7
  replace ga1 := ga1.k k4_7
  have k6_7 := kb n7
  replace gb2 := gb2.k k6_7
  go_big_op
  go_fit (fmake_r ga1 gb2 (by omega) (by omega) H0.out)
  rintro e w_8 ⟨_, rfl, ⟨n_ra, o_ra, k_ra, c_ra, n_rb, o_rb, k_rb, c_rb, rfl, r1, r2⟩, hb_8⟩
  replace xa := xa.bl hb_8; replace hs := hs.bl hb_8
  have Lr1 := hide (r1.lenOf ((r_len (H0.out) rfl (ga1.len) (gb2.len)).1))
  have Lr2 := hide (r2.lenOf ((r_len (H0.out) rfl (ga1.len) (gb2.len)).2))
  refine hK _ _ rfl ⟨hb_8, (And.intro xa trivial)⟩ ?_
  clear hK K
  refine f0 ?_
  refine f0 ?_
  refine e0 hs ?_; clear hs; intro w_9 hs n9
  replace xa := xa.bl n9
  refine tl ?_
  refine .s4 hs.g0 (fun _ => hs.u0 kb_b1) ?_ (e := fun _ hs => (And.intro (xaz.bl hs.b) True.intro)); clear hs; intro w_10 hs hd10 ho10
  replace xa := xa.frame ho10 (Nat.ne_of_lt (Nat.lt_of_lt_of_le lt_xa kb_b1))
  refine tl ?_
  refine .mv ?_ (e := (And.intro (xaz.bl hs.b) True.intro))
  apply wpTail_end
  refine hK2 _ _ ?_
  refine wp_ret ?_
  try dsimp only [Exit.then, Exit.inBlock]
  obtain ⟨r0_0, r0_1, r0_2, r0_3⟩ := hs.g0.f4
  refine bodyPost_ret (v := (.tuple #[(.agg #[.bool n_ra, .slice o_ra k_ra c_ra, .bool n_rb, .slice o_rb k_rb c_rb]), (.int .i64 0)])) (by simp [results, Tryz.results111, go_sem, r0_0, r0_1, r0_2, r0_3]) rfl ?_
  have k8_10 := (kb n9).o hd10 ho10
  replace r1 := r1.k k8_10
  replace r2 := r2.k k8_10
  exact ⟨_, rfl, .mk' r1 r2, hs.b⟩
set_option maxHeartbeats 4000000 in
set_option maxRecDepth 20000 in
theorem low_ok (ha : CN w va x l y m u k v n) (hl : l ≤ 100000000) (hm : m ≤ 100000000) (hk : k ≤ 100000000) (hn : n ≤ 100000000) (hy : y ≠ 0) (hv : v ≠ 0) :
    Calls Tryz.prog 86 #[va] w fun e w' => ∃ r, e = .returned (.tuple #[r, .int .i64 0]) ∧ CC w' r (rv x y).num (rv x y).den (rv u v).num (rv u v).den ∧ Below w.heap.size w w' := by
  have HY := hide hy
  have HV := hide hv
  clear hy hv
  obtain ⟨n_0a, o_0a, k_0a, c_0a, n_0b, o_0b, k_0b, c_0b, n_0c, o_0c, k_0c, c_0c, n_0d, o_0d, k_0d, c_0d, rfl, ha1, ha2, ha3, ha4⟩ := ha
  go_enter Tryz.func86, Tryz.ntmps86
  have hs := St.nil w
  refine wp_seq_k ?_
  intro K1 hK1
  refine rg [0, 1, 2] ?_
  refine sq ?_
  refine .al hs ?_; clear hs; intro p_b1 w_1 hs n1 kb_b1
  refine sq ?_
  refine .al hs ?_; clear hs; intro p_b2 w_2 hs n2 kb_b2
  refine sq ?_
  refine .mv ?_
  apply wpSq_end
  refine hK1 _ _ ?_
  refine wp_seq_k ?_
  intro K2 hK2
  refine rg [0, 1, 2, 3, 4, 5] ?_
  refine sq ?_
  refine .r0 ?_
  refine sq ?_
  intro K hK
  have x_b1 := hs.g1
  have k0_2 := (kb n1).b n2
  replace ha1 := ha1.k k0_2
  replace ha2 := ha2.k k0_2
  replace ha3 := ha3.k k0_2
  replace ha4 := ha4.k k0_2
  go_big_op
  go_fit (number_ok (fun _ _ ↦ by kernel_rfl) (fun w1 h ↦ low1_ok1 (.mk' (x_b1.bl h) (ha1.bl h) (ha2.bl h) (ha3.bl h) (ha4.bl h)) hl hm hk hn HY.out) (fun w1 h ↦ low1_ok2 (.mk' (x_b1.bl h) (ha1.bl h) (ha2.bl h) (ha3.bl h) (ha4.bl h)) hl hm hk hn HV.out))
  rintro e w_3 ⟨_, rfl, ⟨n_r1, o_r1, k_r1, c_r1, n_r2, o_r2, k_r2, c_r2, n_r3, o_r3, k_r3, c_r3, n_r4, o_r4, k_r4, c_r4, rfl, r1, r2, r3, r4⟩, hb_3⟩
  clear x_b1
  replace hs := hs.bl hb_3
  refine hK _ _ rfl trivial ?_
  clear hK K
  refine sq ?_
  refine .r0 ?_
  refine sq ?_
  refine .r0 ?_
  refine sq ?_
  intro K hK
  have xs := hs.g0
  have d0 : w_3.cell? ⟨p_b2, 0, none⟩ = some (.bool false) := hs.g0.cell 0 rfl
  have d1 : w_3.cell? ⟨p_b2, 1, none⟩ = some (.slice none 0 0) := hs.g0.cell 1 rfl
  have d2 : w_3.cell? ⟨p_b2, 2, none⟩ = some (.bool false) := hs.g0.cell 2 rfl
  have d3 : w_3.cell? ⟨p_b2, 3, none⟩ = some (.slice none 0 0) := hs.g0.cell 3 rfl
  have d4 : w_3.cell? ⟨p_b2, 4, none⟩ = some (.bool false) := hs.g0.cell 4 rfl
  have d5 : w_3.cell? ⟨p_b2, 5, none⟩ = some (.slice none 0 0) := hs.g0.cell 5 rfl
  have d6 : w_3.cell? ⟨p_b2, 6, none⟩ = some (.bool false) := hs.g0.cell 6 rfl
  have d7 : w_3.cell? ⟨p_b2, 7, none⟩ = some (.slice none 0 0) := hs.g0.cell 7 rfl
  have f0 := xs.free 0; have f1 := xs.free 1; have f2 := xs.free 2; have f3 := xs.free 3; have f4 := xs.free 4; have f5 := xs.free 5; have f6 := xs.free 6; have f7 := xs.free 7
  go_big_op
  have hd4 := xs.nod rfl rfl
  obtain ⟨w_4_0, eW, xs_0, ho_0⟩ : ∃ w', ((((w_3.setCell ⟨p_b2, 0, none⟩ (.bool n_r1)).setCell ⟨p_b2, 1, none⟩ (.slice o_r1 k_r1 c_r1)).setCell ⟨p_b2, 2, none⟩ (.bool n_r2)).setCell ⟨p_b2, 3, none⟩ (.slice o_r2 k_r2 c_r2)) = w' ∧ Bs w' p_b2 #[.bool n_r1, .slice o_r1 k_r1 c_r1, .bool n_r2, .slice o_r2 k_r2 c_r2, .bool false, .slice none 0 0, .bool false, .slice none 0 0] 55 ∧ Only p_b2 w_3 w' := xs.setN [(0, .bool n_r1), (1, .slice o_r1 k_r1 c_r1), (2, .bool n_r2), (3, .slice o_r2 k_r2 c_r2)]
  rw [eW]; clear eW
  obtain ⟨w_4, eW, xs', ho_4⟩ : ∃ w', ((((w_4_0.setCell ⟨p_b2, 4, none⟩ (.bool n_r3)).setCell ⟨p_b2, 5, none⟩ (.slice o_r3 k_r3 c_r3)).setCell ⟨p_b2, 6, none⟩ (.bool n_r4)).setCell ⟨p_b2, 7, none⟩ (.slice o_r4 k_r4 c_r4)) = w' ∧ Bs w' p_b2 #[.bool n_r1, .slice o_r1 k_r1 c_r1, .bool n_r2, .slice o_r2 k_r2 c_r2, .bool n_r3, .slice o_r3 k_r3 c_r3, .bool n_r4, .slice o_r4 k_r4 c_r4] 55 ∧ Only p_b2 w_4_0 w' := xs_0.setN [(4, .bool n_r3), (5, .slice o_r3 k_r3 c_r3), (6, .bool n_r4), (7, .slice o_r4 k_r4 c_r4)]
  rw [eW]; clear eW xs_0
  have ho4 := (ho_0.trans ho_4)
  clear ho_0 ho_4 d0 d1 d2 d3 d4 d5 d6 d7 f0 f1 f2 f3 f4 f5 f6 f7 xs
  replace hs := hs.u0 kb_b2 xs' ho4; clear xs'
  refine hK _ _ rfl trivial ?_; clear hK K
  refine sq ?_
  refine .mv ?_
  apply wpSq_end
  refine hK2 _ _ ?_
  refine wp_ret ?_
  try dsimp only [Exit.then, Exit.inBlock]
  have r0_0 : w_4.cell? ⟨p_b2, 0, none⟩ = some (.bool n_r1) := hs.g0.cell 0 rfl
  have r0_1 : w_4.cell? ⟨p_b2, 1, none⟩ = some (.slice o_r1 k_r1 c_r1) := hs.g0.cell 1 rfl
  have r0_2 : w_4.cell? ⟨p_b2, 2, none⟩ = some (.bool n_r2) := hs.g0.cell 2 rfl
  have r0_3 : w_4.cell? ⟨p_b2, 3, none⟩ = some (.slice o_r2 k_r2 c_r2) := hs.g0.cell 3 rfl
  have r0_4 : w_4.cell? ⟨p_b2, 4, none⟩ = some (.bool n_r3) := hs.g0.cell 4 rfl
  have r0_5 : w_4.cell? ⟨p_b2, 5, none⟩ = some (.slice o_r3 k_r3 c_r3) := hs.g0.cell 5 rfl
  have r0_6 : w_4.cell? ⟨p_b2, 6, none⟩ = some (.bool n_r4) := hs.g0.cell 6 rfl
  have r0_7 : w_4.cell? ⟨p_b2, 7, none⟩ = some (.slice o_r4 k_r4 c_r4) := hs.g0.cell 7 rfl
  refine bodyPost_ret (v := (.tuple #[(.agg #[.bool n_r1, .slice o_r1 k_r1 c_r1, .bool n_r2, .slice o_r2 k_r2 c_r2, .bool n_r3, .slice o_r3 k_r3 c_r3, .bool n_r4, .slice o_r4 k_r4 c_r4]), (.int .i64 0)])) (by simp [results, Tryz.results86, go_sem, r0_0, r0_1, r0_2, r0_3, r0_4, r0_5, r0_6, r0_7]) rfl ?_
  have k3_4 := ko hd4 ho4
  replace r1 := r1.k k3_4
  replace r2 := r2.k k3_4
  replace r3 := r3.k k3_4
  replace r4 := r4.k k3_4
  exact ⟨_, rfl, .mk' r1 r2 r3 r4, hs.b⟩
end
/-- What each numerator is multiplied by. -/
def odF (y v : Int) : Int := v.fdiv (Int.gcd y v)
def odG (y v : Int) : Int := y.fdiv (Int.gcd y v)
theorem od_len {y v : Int} {m n : Nat} (hy : (dig y.natAbs).length ≤ m) (hv : (dig v.natAbs).length ≤ n) : (dig (odF y v).natAbs).length ≤ n ∧ (dig (odG y v).natAbs).length ≤ m := by
  unfold odF odG
  by_cases h : (Int.gcd y v : Int) = 0
  · have h1 : Int.gcd y v = 0 := by exact_mod_cast h
    obtain ⟨rfl, rfl⟩ := Int.gcd_eq_zero_iff.1 h1
    rw [Int.zero_fdiv]
    exact ⟨hv, hy⟩
  · exact ⟨fdiv_len h hv, fdiv_len h hy⟩
theorem od_ne {y v : Int} (hy : y ≠ 0) (hv : v ≠ 0) : odF y v ≠ 0 ∧ odG y v ≠ 0 ∧ y * odF y v = v * odG y v := by
  have h1 := Int.fdiv_mul_cancel (Int.gcd_dvd_left y v)
  have h2 := Int.fdiv_mul_cancel (Int.gcd_dvd_right y v)
  unfold odF odG
  generalize (Int.gcd y v : Int) = g at *
  generalize y.fdiv g = a at *
  generalize v.fdiv g = b at *
  refine ⟨fun h => hv (by rw [← h2, h, Int.zero_mul]), fun h => hy (by rw [← h1, h, Int.zero_mul]), ?_⟩
  rw [← h1, ← h2]
  grind
theorem rv_scale {x y f : Int} (hy : y ≠ 0) (hf : f ≠ 0) : rv (x * f) (y * f) = rv x y :=
  (rv_eq (Int.mul_ne_zero hy hf) hy).2 (by grind)
section
variable {x y u v p q s t : Int}
/-- A number over one denominator is the number. -/
theorem od_rv (hy : y ≠ 0) (hv : v ≠ 0) : y * odF y v ≠ 0 ∧ rv (x * odF y v) (y * odF y v) = rv x y ∧ rv (u * odG y v) (y * odF y v) = rv u v := by
  obtain ⟨h1, h2, h3⟩ := od_ne hy hv
  exact ⟨Int.mul_ne_zero hy h1, rv_scale hy h1, by rw [h3]; exact rv_scale hv h2⟩
theorem quo_rv {X Y D P S E : Int} (hD : D ≠ 0) (hE : E ≠ 0) (hN : gN P S ≠ 0) :
    rv ((X * E - Y * 0) * P - (X * 0 + Y * E) * -S) (D * gN P S) = (rv X D * rv P E - rv Y D * -rv S E) / (rv P E * rv P E + rv S E * rv S E) ∧
    rv ((X * E - Y * 0) * -S + (X * 0 + Y * E) * P) (D * gN P S) = (rv X D * -rv S E + rv Y D * rv P E) / (rv P E * rv P E + rv S E * rv S E) := by
  have h1 := cast_ne hD
  have h2 := cast_ne hE
  have h3 := cast_ne hN
  unfold gN at h3 ⊢
  rw [Rat.intCast_add, Rat.intCast_mul, Rat.intCast_mul] at h3
  unfold rv
  simp only [Rat.intCast_add, Rat.intCast_sub, Rat.intCast_mul, Rat.intCast_neg]
  generalize (X : Rat) = a at *
  generalize (Y : Rat) = b at *
  generalize (D : Rat) = c at *
  generalize (P : Rat) = d at *
  generalize (S : Rat) = e at *
  generalize (E : Rat) = f at *
  obtain ⟨n, hn⟩ : ∃ n, d * d + e * e = n := ⟨_, rfl⟩
  rw [hn] at h3 ⊢
  have h4 : d / f * (d / f) + e / f * (e / f) = n / (f * f) := by grind
  rw [h4]
  have h5 : ((0 : Int) : Rat) = 0 := rfl
  rw [h5]
  constructor <;> grind
end
section
variable {w : World} {va vb : Value} {x y u v p q s t : Int} {l m k n l2 m2 k2 n2 : Nat}
set_option maxHeartbeats 4000000 in
set_option maxRecDepth 20000 in
theorem od_some (ha : CN w va x l y m u k v n) (hl : l ≤ 9000000) (hm : m ≤ 4500000) (hk : k ≤ 9000000) (hn : n ≤ 4500000) (h : ¬ (y = 0 ∧ v = 0)) :
    Calls Tryz.prog 84 #[va] w fun e w' => ∃ r d, e = .returned (.tuple #[r, d]) ∧ PC w' r (x * odF y v) (u * odG y v) ∧ ZC w' d (y * odF y v) ∧ Below w.heap.size w w' := by
  have HG := hide (show (Int.gcd y v : Int) ≠ 0 from fun h0 => h (Int.gcd_eq_zero_iff.1 (by exact_mod_cast h0)))
  have H1 := hide (fmod_dvd (Int.gcd_dvd_left y v))
  have H2 := hide (fmod_dvd (Int.gcd_dvd_right y v))
  clear h
  unfold odF odG
  obtain ⟨n_0a, o_0a, k_0a, c_0a, n_0b, o_0b, k_0b, c_0b, n_0c, o_0c, k_0c, c_0c, n_0d, o_0d, k_0d, c_0d, rfl, ha1, ha2, ha3, ha4⟩ := ha
  go_enter Tryz.func84, Tryz.ntmps84
  have hs := St.nil w
  refine wp_seq_k ?_
  intro K1 hK1
  refine rg [0, 1, 2] ?_
  refine sq ?_
  refine .al hs ?_; clear hs; intro p_b1 w_1 hs n1 kb_b1
  refine sq ?_
  refine .al hs ?_; clear hs; intro p_b2 w_2 hs n2 kb_b2
  refine sq ?_
  refine .al hs ?_; clear hs; intro p_b3 w_3 hs n3 kb_b3
  apply wpSq_end
  refine hK1 _ _ ?_
  refine wp_seq_k ?_
  intro K2 hK2
  refine rg [0, 1, 2, 3, 4, 5, 6, 7, 8] ?_
  refine sq ?_
  refine .r0 ?_
  refine sq ?_
  refine .r0 ?_
  refine sq ?_
  refine .r2 ⟨hs.g2.cell 2 rfl, hs.g2.cell 3 rfl⟩ ?_
  refine sq ?_
  refine .r0 ?_
  refine sq ?_
  refine .r0 ?_
  refine sq ?_
  refine .r2 ⟨hs.g2.cell 6 rfl, hs.g2.cell 7 rfl⟩ ?_
  refine sq ?_
  intro K hK
  have k0_3 := ((kb n1).b n2).b n3
  replace ha2 := ha2.k k0_3
  replace ha4 := ha4.k k0_3
  go_big_op
  go_fit (zgcd_any ha2 ha4 (by omega) (by omega) )
  rintro e w_4 ⟨v_g, rfl, g, hb_4⟩
  replace hs := hs.bl hb_4
  replace g := g.rd
  obtain ⟨n_g, o_g, k_g, c_g, rfl⟩ := g.open2
  have Lg := hide (g.lenOf (zlen_gcd (ha2.len) (ha4.len)))
  refine hK _ _ rfl trivial ?_
  clear hK K
  refine sq ?_
  refine .al hs ?_; clear hs; intro p_b4 w_5 hs n5 kb_b4
  refine sq ?_
  refine .s2 hs.g0 (fun _ => hs.u0 kb_b4) ?_; clear hs; intro w_6 hs hd6 ho6
  apply wpSq_end
  refine hK2 _ _ ?_
  refine wp_seq_k ?_
  intro K3 hK3
  refine rg [0, 1, 2, 3, 4, 5, 6, 7, 8, 9, 10] ?_
  refine sq ?_
  refine .r0 ?_
  refine sq ?_
  refine .r0 ?_
  refine sq ?_
  refine .r2 ⟨hs.g3.cell 2 rfl, hs.g3.cell 3 rfl⟩ ?_
  refine sq ?_
  refine .r2 hs.g0.f2 ?_
  refine sq ?_
  intro K hK
  have k3_6 := ((kb hb_4).b n5).o hd6 ho6
  replace ha2 := ha2.k k3_6
  have k4_6 := (kb n5).o hd6 ho6
  replace g := g.k k4_6
  go_big_op
  go_fit (exact_any ha2 (g.zn Lg.out) (by omega) (by omega) HG.out H1.out)
  rintro e w_7 ⟨v_gi, rfl, gi, hb_7⟩
  replace hs := hs.bl hb_7
  replace gi := gi.rd
  obtain ⟨n_gi, o_gi, k_gi, c_gi, rfl⟩ := gi.open2
  have Lgi := hide (gi.lenOf (fdiv_len (HG.out) (ha2.len)))
  refine hK _ _ rfl trivial ?_
  clear hK K
  refine sq ?_
  refine .mv ?_
  refine sq ?_
  refine .r0 ?_
  refine sq ?_
  refine .r0 ?_
  refine sq ?_
  refine .al hs ?_; clear hs; intro p_b5 w_8 hs n8 kb_b5
  refine sq ?_
  refine .s2 hs.g0 (fun _ => hs.u0 kb_b5) ?_; clear hs; intro w_9 hs hd9 ho9
  refine sq ?_
  refine .mv ?_
  apply wpSq_end
  refine hK3 _ _ ?_
  refine wp_seq_k ?_
  intro K4 hK4
  refine rg [0, 1, 2, 3, 4, 5, 6, 7, 8, 9, 10] ?_
  refine sq ?_
  refine .r0 ?_
  refine sq ?_
  refine .r0 ?_
  refine sq ?_
  refine .r2 ⟨hs.g4.cell 6 rfl, hs.g4.cell 7 rfl⟩ ?_
  refine sq ?_
  refine .r2 hs.g1.f2 ?_
  refine sq ?_
  intro K hK
  have k3_9 := ((k3_6.b hb_7).b n8).o hd9 ho9
  replace ha4 := ha4.k k3_9
  have k6_9 := ((kb hb_7).b n8).o hd9 ho9
  replace g := g.k k6_9
  go_big_op
  go_fit (exact_any ha4 (g.zn Lg.out) (by omega) (by omega) HG.out H2.out)
  rintro e w_10 ⟨v_gr, rfl, gr, hb_10⟩
  replace hs := hs.bl hb_10
  replace gr := gr.rd
  obtain ⟨n_gr, o_gr, k_gr, c_gr, rfl⟩ := gr.open2
  have Lgr := hide (gr.lenOf (fdiv_len (HG.out) (ha4.len)))
  refine hK _ _ rfl trivial ?_
  clear hK K
  refine sq ?_
  refine .mv ?_
  refine sq ?_
  refine .r0 ?_
  refine sq ?_
  refine .r0 ?_
  refine sq ?_
  refine .al hs ?_; clear hs; intro p_b6 w_11 hs n11 kb_b6
  refine sq ?_
  refine .s2 hs.g0 (fun _ => hs.u0 kb_b6) ?_; clear hs; intro w_12 hs hd12 ho12
  refine sq ?_
  refine .mv ?_
  apply wpSq_end
  refine hK4 _ _ ?_
  refine wp_seq_k ?_
  intro K5 hK5
  refine wp_region_f4 [(0, false), (1, false), (2, false), (3, false), (5, false), (6, false), (7, false), (8, false), (4, true), (9, true), (10, false)] [11] [] (fun _ => default) [99, 99, 0, 1, 99, 99, 99, 0, 2, 99, 99, 99] [] (.c hs.g5 (.c hs.g0 (.c hs.g1 .n))) fn fun w_13 n13 => ?_
  replace hs := hs.bl n13
  refine f0 ?_
  refine f0 ?_
  apply wpFl_ld rfl rfl; (case h1 => intro w' hC K hK; have c0 := Bs.cell hC 0 rfl; have c1 := Bs.cell hC 1 rfl; go_big_op; exact hK); iterate 4 kernel_rfl
  refine f2 ?_
  refine f0 ?_
  refine f0 ?_
  apply wpFl_ld rfl rfl; (case h1 => intro w' hC K hK; have c4 := Bs.cell hC 4 rfl; have c5 := Bs.cell hC 5 rfl; go_big_op; exact hK); iterate 4 kernel_rfl
  refine f2 ?_
  refine fl fun w_14 n14 => ?_
  replace hs := hs.bl n14
  intro K hK
  have k0_14 := ((((((((((k0_3.b hb_4).b n5).o hd6 ho6).b hb_7).b n8).o hd9 ho9).b hb_10).b n11).o hd12 ho12).b n13).b n14
  replace ha1 := ha1.k k0_14
  have k10_14 := (((kb n11).o hd12 ho12).b n13).b n14
  replace gr := gr.k k10_14
  go_big_op
  go_fit (zmul_any ha1 (gr.zn Lgr.out) (by omega) (by omega) )
  rintro e w_15 ⟨v_tr, rfl, tr, hb_15⟩
  replace hs := hs.bl hb_15
  replace tr := tr.rd
  obtain ⟨n_tr, o_tr, k_tr, c_tr, rfl⟩ := tr.open2
  have Ltr := hide (tr.lenOf (zlen_mul (ha1.len) (Lgr.out)))
  refine hK _ _ rfl ⟨hb_15, (And.intro hs.g5 (And.intro hs.g0 (And.intro hs.g1 trivial)))⟩ ?_
  clear hK K
  refine fl fun w_16 n16 => ?_
  replace hs := hs.bl n16
  intro K hK
  have k0_16 := (k0_14.b hb_15).b n16
  replace ha3 := ha3.k k0_16
  have k7_16 := ((((((((kb n8).o hd9 ho9).b hb_10).b n11).o hd12 ho12).b n13).b n14).b hb_15).b n16
  replace gi := gi.k k7_16
  go_big_op
  go_fit (zmul_any ha3 (gi.zn Lgi.out) (by omega) (by omega) )
  rintro e w_17 ⟨v_ti, rfl, ti, hb_17⟩
  replace hs := hs.bl hb_17
  replace ti := ti.rd
  obtain ⟨n_ti, o_ti, k_ti, c_ti, rfl⟩ := ti.open2
  have Lti := hide (ti.lenOf (zlen_mul (ha3.len) (Lgi.out)))
  refine hK _ _ rfl ⟨hb_17, (And.intro hs.g5 (And.intro hs.g0 (And.intro hs.g1 trivial)))⟩ ?_
  clear hK K
  refine f0 ?_
  refine e0 hs ?_; clear hs; intro w_18 hs n18
  refine tl ?_
  refine .s4 hs.g4 (fun _ => hs.u4 kb_b2) ?_ (e := fun _ hs => (And.intro hs.g5 (And.intro hs.g0 (And.intro hs.g1 True.intro)))); clear hs; intro w_19 hs hd19 ho19
  apply wpTail_end
  refine hK5 _ _ ?_
  refine wp_seq_k ?_
  intro K6 hK6
  refine wp_region_f4 [(0, false), (1, false), (2, false), (3, false), (4, false), (5, true)] [6, 7] [] (fun _ => default) [0, 99, 99, 1, 2, 99, 99, 99] [(6, 0), (7, 0)] (.c hs.g4 (.c hs.g5 (.c hs.g0 .n))) fn fun w_20 n20 => ?_
  replace hs := hs.bl n20
  refine f4 ?_
  refine f0 ?_
  refine f0 ?_
  apply wpFl_ld rfl rfl; (case h1 => intro w' hC K hK; have c2 := Bs.cell hC 2 rfl; have c3 := Bs.cell hC 3 rfl; go_big_op; exact hK); iterate 4 kernel_rfl
  refine f2 ?_
  refine fl fun w_21 n21 => ?_
  replace hs := hs.bl n21
  intro K hK
  have k6_21 := (((((((((((k6_9.b hb_10).b n11).o hd12 ho12).b n13).b n14).b hb_15).b n16).b hb_17).b n18).o hd19 ho19).b n20).b n21
  replace ha2 := ha2.k k6_21
  have k14_21 := ((((((kb hb_15).b n16).b hb_17).b n18).o hd19 ho19).b n20).b n21
  replace gr := gr.k k14_21
  go_big_op
  go_fit (zmul_any ha2 (gr.zn Lgr.out) (by omega) (by omega) )
  rintro e w_22 ⟨v_dd, rfl, dd, hb_22⟩
  replace hs := hs.bl hb_22
  replace dd := dd.rd
  obtain ⟨n_dd, o_dd, k_dd, c_dd, rfl⟩ := dd.open2
  have Ldd := hide (dd.lenOf (zlen_mul (ha2.len) (Lgr.out)))
  refine hK _ _ rfl ⟨hb_22, (And.intro hs.g4 (And.intro hs.g5 (And.intro hs.g0 trivial)))⟩ ?_
  clear hK K
  refine e0 hs ?_; clear hs; intro w_23 hs n23
  refine tl ?_
  refine .s4 hs.g4 (fun _ => hs.u4 kb_b2) ?_ (e := fun _ hs => (And.intro True.intro (And.intro hs.g5 (And.intro hs.g0 True.intro)))); clear hs; intro w_24 hs hd24 ho24
  refine tl ?_
  refine .s2 hs.g3 (fun _ => hs.u3 kb_b3) ?_ (e := fun _ hs => (And.intro True.intro (And.intro hs.g5 (And.intro hs.g0 True.intro)))); clear hs; intro w_25 hs hd25 ho25
  apply wpTail_end
  refine hK6 _ _ ?_
  refine wp_ret ?_
  try dsimp only [Exit.then, Exit.inBlock]
  obtain ⟨r0_0, r0_1, r0_2, r0_3⟩ := hs.g4.f4
  obtain ⟨r4_0, r4_1⟩ := hs.g3.f2
  refine bodyPost_ret (v := (.tuple #[(.agg #[.bool n_tr, .slice o_tr k_tr c_tr, .bool n_ti, .slice o_ti k_ti c_ti]), (.agg #[.bool n_dd, .slice o_dd k_dd c_dd])])) (by simp [results, Tryz.results84, go_sem, r0_0, r0_1, r0_2, r0_3, r4_0, r4_1]) rfl ?_
  have k15_25 := (((((((((kb n16).b hb_17).b n18).o hd19 ho19).b n20).b n21).b hb_22).b n23).o hd24 ho24).o hd25 ho25
  replace tr := tr.k k15_25
  have k17_25 := (((((((kb n18).o hd19 ho19).b n20).b n21).b hb_22).b n23).o hd24 ho24).o hd25 ho25
  replace ti := ti.k k17_25
  have k22_25 := ((kb n23).o hd24 ho24).o hd25 ho25
  replace dd := dd.k k22_25
  exact ⟨_, _, rfl, .mk' tr ti, dd, hs.b⟩
set_option maxHeartbeats 4000000 in
set_option maxRecDepth 20000 in
theorem od_none (ha : CN w va x l 0 m u k 0 n) (hl : l ≤ 9000000) (hm : m ≤ 4500000) (hk : k ≤ 9000000) (hn : n ≤ 4500000) :
    Calls Tryz.prog 84 #[va] w fun e w' => ∃ r d, e = .returned (.tuple #[r, d]) ∧ PC w' r (x * 0) (u * 0) ∧ ZC w' d (0 * 0) ∧ Below w.heap.size w w' := by
  have HG := hide (show (Int.gcd 0 0 : Int) = 0 from rfl)
  obtain ⟨n_0a, o_0a, k_0a, c_0a, n_0b, o_0b, k_0b, c_0b, n_0c, o_0c, k_0c, c_0c, n_0d, o_0d, k_0d, c_0d, rfl, ha1, ha2, ha3, ha4⟩ := ha
  go_enter Tryz.func84, Tryz.ntmps84
  have hs := St.nil w
  refine wp_seq_k ?_
  intro K1 hK1
  refine rg [0, 1, 2] ?_
  refine sq ?_
  refine .al hs ?_; clear hs; intro p_b1 w_1 hs n1 kb_b1
  refine sq ?_
  refine .al hs ?_; clear hs; intro p_b2 w_2 hs n2 kb_b2
  refine sq ?_
  refine .al hs ?_; clear hs; intro p_b3 w_3 hs n3 kb_b3
  apply wpSq_end
  refine hK1 _ _ ?_
  refine wp_seq_k ?_
  intro K2 hK2
  refine rg [0, 1, 2, 3, 4, 5, 6, 7, 8] ?_
  refine sq ?_
  refine .r0 ?_
  refine sq ?_
  refine .r0 ?_
  refine sq ?_
  refine .r2 ⟨hs.g2.cell 2 rfl, hs.g2.cell 3 rfl⟩ ?_
  refine sq ?_
  refine .r0 ?_
  refine sq ?_
  refine .r0 ?_
  refine sq ?_
  refine .r2 ⟨hs.g2.cell 6 rfl, hs.g2.cell 7 rfl⟩ ?_
  refine sq ?_
  intro K hK
  have k0_3 := ((kb n1).b n2).b n3
  replace ha2 := ha2.k k0_3
  replace ha4 := ha4.k k0_3
  go_big_op
  go_fit (zgcd_any ha2 ha4 (by omega) (by omega) )
  rintro e w_4 ⟨v_g, rfl, g, hb_4⟩
  replace hs := hs.bl hb_4
  replace g := g.rd
  obtain ⟨n_g, o_g, k_g, c_g, rfl⟩ := g.open2
  have Lg := hide (g.lenOf (zlen_gcd (ha2.len) (ha4.len)))
  rw [HG.out] at g
  refine hK _ _ rfl trivial ?_
  clear hK K
  refine sq ?_
  refine .al hs ?_; clear hs; intro p_b4 w_5 hs n5 kb_b4
  refine sq ?_
  refine .s2 hs.g0 (fun _ => hs.u0 kb_b4) ?_; clear hs; intro w_6 hs hd6 ho6
  apply wpSq_end
  refine hK2 _ _ ?_
  refine wp_seq_k ?_
  intro K3 hK3
  refine rg [0, 1, 2, 3, 4, 5, 6, 7, 8, 9, 10] ?_
  refine sq ?_
  refine .r0 ?_
  refine sq ?_
  refine .r0 ?_
  refine sq ?_
  refine .r2 ⟨hs.g3.cell 2 rfl, hs.g3.cell 3 rfl⟩ ?_
  refine sq ?_
  refine .r2 hs.g0.f2 ?_
  have Lg := hide (g.lenOf (zlen_0))
  refine sq ?_
  intro K hK
  have k3_6 := ((kb hb_4).b n5).o hd6 ho6
  replace ha2 := ha2.k k3_6
  have k4_6 := (kb n5).o hd6 ho6
  replace g := g.k k4_6
  go_big_op
  go_fit (exact_zero ha2 (g.zn Lg.out) (by omega) (by omega) )
  rintro e w_7 ⟨rfl, hb_7⟩
  replace hs := hs.bl hb_7
  refine hK _ _ rfl trivial ?_
  clear hK K
  refine sq ?_
  refine .mv ?_
  refine sq ?_
  refine .r0 ?_
  refine sq ?_
  refine .r0 ?_
  refine sq ?_
  refine .al hs ?_; clear hs; intro p_b5 w_8 hs n8 kb_b5
  refine sq ?_
  refine .s2 hs.g0 (fun _ => hs.u0 kb_b5) ?_; clear hs; intro w_9 hs hd9 ho9
  refine sq ?_
  refine .mv ?_
  apply wpSq_end
  refine hK3 _ _ ?_
  refine wp_seq_k ?_
  intro K4 hK4
  refine rg [0, 1, 2, 3, 4, 5, 6, 7, 8, 9, 10] ?_
  refine sq ?_
  refine .r0 ?_
  refine sq ?_
  refine .r0 ?_
  refine sq ?_
  refine .r2 ⟨hs.g4.cell 6 rfl, hs.g4.cell 7 rfl⟩ ?_
  refine sq ?_
  refine .r2 hs.g1.f2 ?_
  refine sq ?_
  intro K hK
  have k3_9 := ((k3_6.b hb_7).b n8).o hd9 ho9
  replace ha4 := ha4.k k3_9
  have k6_9 := ((kb hb_7).b n8).o hd9 ho9
  replace g := g.k k6_9
  go_big_op
  go_fit (exact_zero ha4 (g.zn Lg.out) (by omega) (by omega) )
  rintro e w_10 ⟨rfl, hb_10⟩
  replace hs := hs.bl hb_10
  refine hK _ _ rfl trivial ?_
  clear hK K
  refine sq ?_
  refine .mv ?_
  refine sq ?_
  refine .r0 ?_
  refine sq ?_
  refine .r0 ?_
  refine sq ?_
  refine .al hs ?_; clear hs; intro p_b6 w_11 hs n11 kb_b6
  refine sq ?_
  refine .s2 hs.g0 (fun _ => hs.u0 kb_b6) ?_; clear hs; intro w_12 hs hd12 ho12
  refine sq ?_
  refine .mv ?_
  apply wpSq_end
  refine hK4 _ _ ?_
  refine wp_seq_k ?_
  intro K5 hK5
  refine wp_region_f4 [(0, false), (1, false), (2, false), (3, false), (5, false), (6, false), (7, false), (8, false), (4, true), (9, true), (10, false)] [11] [] (fun _ => default) [99, 99, 0, 1, 99, 99, 99, 0, 2, 99, 99, 99] [] (.c hs.g5 (.c hs.g0 (.c hs.g1 .n))) fn fun w_13 n13 => ?_
  replace hs := hs.bl n13
  refine f0 ?_
  refine f0 ?_
  apply wpFl_ld rfl rfl; (case h1 => intro w' hC K hK; have c0 := Bs.cell hC 0 rfl; have c1 := Bs.cell hC 1 rfl; go_big_op; exact hK); iterate 4 kernel_rfl
  refine f2 ?_
  refine f0 ?_
  refine f0 ?_
  apply wpFl_ld rfl rfl; (case h1 => intro w' hC K hK; have c4 := Bs.cell hC 4 rfl; have c5 := Bs.cell hC 5 rfl; go_big_op; exact hK); iterate 4 kernel_rfl
  refine f2 ?_
  refine fl fun w_14 n14 => ?_
  replace hs := hs.bl n14
  intro K hK
  have k0_14 := ((((((((((k0_3.b hb_4).b n5).o hd6 ho6).b hb_7).b n8).o hd9 ho9).b hb_10).b n11).o hd12 ho12).b n13).b n14
  replace ha1 := ha1.k k0_14
  go_big_op
  go_fit (zmul_any ha1 ((zc_zero w_14).zn zlen_0) (by omega) (by omega) )
  rintro e w_15 ⟨v_tr, rfl, tr, hb_15⟩
  replace hs := hs.bl hb_15
  replace tr := tr.rd
  obtain ⟨n_tr, o_tr, k_tr, c_tr, rfl⟩ := tr.open2
  have Ltr := hide (tr.lenOf (zlen_mul (ha1.len) (zlen_0)))
  refine hK _ _ rfl ⟨hb_15, (And.intro hs.g5 (And.intro hs.g0 (And.intro hs.g1 trivial)))⟩ ?_
  clear hK K
  refine fl fun w_16 n16 => ?_
  replace hs := hs.bl n16
  intro K hK
  have k0_16 := (k0_14.b hb_15).b n16
  replace ha3 := ha3.k k0_16
  go_big_op
  go_fit (zmul_any ha3 ((zc_zero w_16).zn zlen_0) (by omega) (by omega) )
  rintro e w_17 ⟨v_ti, rfl, ti, hb_17⟩
  replace hs := hs.bl hb_17
  replace ti := ti.rd
  obtain ⟨n_ti, o_ti, k_ti, c_ti, rfl⟩ := ti.open2
  have Lti := hide (ti.lenOf (zlen_mul (ha3.len) (zlen_0)))
  refine hK _ _ rfl ⟨hb_17, (And.intro hs.g5 (And.intro hs.g0 (And.intro hs.g1 trivial)))⟩ ?_
  clear hK K
  refine f0 ?_
  refine e0 hs ?_; clear hs; intro w_18 hs n18
  refine tl ?_
  refine .s4 hs.g4 (fun _ => hs.u4 kb_b2) ?_ (e := fun _ hs => (And.intro hs.g5 (And.intro hs.g0 (And.intro hs.g1 True.intro)))); clear hs; intro w_19 hs hd19 ho19
  apply wpTail_end
  refine hK5 _ _ ?_
  refine wp_seq_k ?_
  intro K6 hK6
  refine wp_region_f4 [(0, false), (1, false), (2, false), (3, false), (4, false), (5, true)] [6, 7] [] (fun _ => default) [0, 99, 99, 1, 2, 99, 99, 99] [(6, 0), (7, 0)] (.c hs.g4 (.c hs.g5 (.c hs.g0 .n))) fn fun w_20 n20 => ?_
  replace hs := hs.bl n20
  refine f4 ?_
  refine f0 ?_
  refine f0 ?_
  apply wpFl_ld rfl rfl; (case h1 => intro w' hC K hK; have c2 := Bs.cell hC 2 rfl; have c3 := Bs.cell hC 3 rfl; go_big_op; exact hK); iterate 4 kernel_rfl
  refine f2 ?_
  refine fl fun w_21 n21 => ?_
  replace hs := hs.bl n21
  intro K hK
  have k6_21 := (((((((((((k6_9.b hb_10).b n11).o hd12 ho12).b n13).b n14).b hb_15).b n16).b hb_17).b n18).o hd19 ho19).b n20).b n21
  replace ha2 := ha2.k k6_21
  go_big_op
  go_fit (zmul_any ha2 ((zc_zero w_21).zn zlen_0) (by omega) (by omega) )
  rintro e w_22 ⟨v_dd, rfl, dd, hb_22⟩
  replace hs := hs.bl hb_22
  replace dd := dd.rd
  obtain ⟨n_dd, o_dd, k_dd, c_dd, rfl⟩ := dd.open2
  have Ldd := hide (dd.lenOf (zlen_mul (ha2.len) (zlen_0)))
  refine hK _ _ rfl ⟨hb_22, (And.intro hs.g4 (And.intro hs.g5 (And.intro hs.g0 trivial)))⟩ ?_
  clear hK K
  refine e0 hs ?_; clear hs; intro w_23 hs n23
  refine tl ?_
  refine .s4 hs.g4 (fun _ => hs.u4 kb_b2) ?_ (e := fun _ hs => (And.intro True.intro (And.intro hs.g5 (And.intro hs.g0 True.intro)))); clear hs; intro w_24 hs hd24 ho24
  refine tl ?_
  refine .s2 hs.g3 (fun _ => hs.u3 kb_b3) ?_ (e := fun _ hs => (And.intro True.intro (And.intro hs.g5 (And.intro hs.g0 True.intro)))); clear hs; intro w_25 hs hd25 ho25
  apply wpTail_end
  refine hK6 _ _ ?_
  refine wp_ret ?_
  try dsimp only [Exit.then, Exit.inBlock]
  obtain ⟨r0_0, r0_1, r0_2, r0_3⟩ := hs.g4.f4
  obtain ⟨r4_0, r4_1⟩ := hs.g3.f2
  refine bodyPost_ret (v := (.tuple #[(.agg #[.bool n_tr, .slice o_tr k_tr c_tr, .bool n_ti, .slice o_ti k_ti c_ti]), (.agg #[.bool n_dd, .slice o_dd k_dd c_dd])])) (by simp [results, Tryz.results84, go_sem, r0_0, r0_1, r0_2, r0_3, r4_0, r4_1]) rfl ?_
  have k15_25 := (((((((((kb n16).b hb_17).b n18).o hd19 ho19).b n20).b n21).b hb_22).b n23).o hd24 ho24).o hd25 ho25
  replace tr := tr.k k15_25
  have k17_25 := (((((((kb n18).o hd19 ho19).b n20).b n21).b hb_22).b n23).o hd24 ho24).o hd25 ho25
  replace ti := ti.k k17_25
  have k22_25 := ((kb n23).o hd24 ho24).o hd25 ho25
  replace dd := dd.k k22_25
  exact ⟨_, _, rfl, .mk' tr ti, dd, hs.b⟩
theorem od_any (ha : CN w va x l y m u k v n) (hl : l ≤ 9000000) (hm : m ≤ 4500000) (hk : k ≤ 9000000) (hn : n ≤ 4500000) :
    Calls Tryz.prog 84 #[va] w fun e w' => ∃ r d, e = .returned (.tuple #[r, d]) ∧ PC w' r (x * odF y v) (u * odG y v) ∧ ZC w' d (y * odF y v) ∧ Below w.heap.size w w' := by
  by_cases h : y = 0 ∧ v = 0
  · obtain ⟨rfl, rfl⟩ := h
    exact od_none ha hl hm hk hn
  · exact od_some ha hl hm hk hn h
set_option maxHeartbeats 4000000 in
set_option maxRecDepth 20000 in
theorem gfQuo_ok (ha : CN w va x l y m u k v n) (hq : CN w vb p l2 q m2 s k2 t n2) (hl : l ≤ 9000000) (hm : m ≤ 4500000) (hk : k ≤ 9000000) (hn : n ≤ 4500000) (hl2 : l2 ≤ 1100000) (hm2 : m2 ≤ 1100000) (hk2 : k2 ≤ 1100000) (hn2 : n2 ≤ 1100000) (hy : y ≠ 0) (hv : v ≠ 0) (hq0 : q ≠ 0) (ht : t ≠ 0) (h0 : ¬ (p = 0 ∧ s = 0)) :
    Calls Tryz.prog 50 #[va, vb] w fun e w' => ∃ r, e = .returned (.tuple #[r, .int .i64 0]) ∧ CC w' r ((rv x y * rv p q - rv u v * -rv s t) / (rv p q * rv p q + rv s t * rv s t)).num ((rv x y * rv p q - rv u v * -rv s t) / (rv p q * rv p q + rv s t * rv s t)).den ((rv x y * -rv s t + rv u v * rv p q) / (rv p q * rv p q + rv s t * rv s t)).num ((rv x y * -rv s t + rv u v * rv p q) / (rv p q * rv p q + rv s t * rv s t)).den ∧ Below w.heap.size w w' := by
  obtain ⟨h1, h2, h3⟩ := od_rv (x := x) (u := u) hy hv
  obtain ⟨h4, h5, h6⟩ := od_rv (x := p) (u := s) hq0 ht
  have h7 : gN (p * odF q t) (s * odG q t) ≠ 0 := fun e => h0 (by
    have e2 := gN_zero.1 e
    have e3 := od_ne hq0 ht
    exact ⟨(Int.mul_eq_zero.1 e2.1).resolve_right e3.1, (Int.mul_eq_zero.1 e2.2).resolve_right e3.2.1⟩)
  have HD := hide (Int.mul_ne_zero h1 h7)
  have HS : ((q * odF q t).sign = 0) = False := by simpa using h4
  have HM := quo_rv (X := x * odF y v) (Y := u * odG y v) (P := p * odF q t) (S := s * odG q t) h1 h4 h7
  rw [h2, h3, h5, h6] at HM
  replace HM := hide HM
  obtain ⟨Sg, hSg⟩ : ∃ Sg, (q * odF q t).sign = Sg := ⟨_, rfl⟩
  have HSg := hide hSg
  rw [hSg] at HS
  clear hy hv hq0 ht h1 h2 h3 h4 h5 h6 h7 h0 hSg
  obtain ⟨n_0a, o_0a, k_0a, c_0a, n_0b, o_0b, k_0b, c_0b, n_0c, o_0c, k_0c, c_0c, n_0d, o_0d, k_0d, c_0d, rfl, ha1, ha2, ha3, ha4⟩ := ha
  obtain ⟨n_1a, o_1a, k_1a, c_1a, n_1b, o_1b, k_1b, c_1b, n_1c, o_1c, k_1c, c_1c, n_1d, o_1d, k_1d, c_1d, rfl, hq1, hq2, hq3, hq4⟩ := hq
  go_enter Tryz.func50, Tryz.ntmps50
  have hs := St.nil w
  refine wp_seq_k ?_
  intro K1 hK1
  refine rg [0, 1, 2, 3] ?_
  refine sq ?_
  refine .al hs ?_; clear hs; intro p_b1 w_1 hs n1 kb_b1
  refine sq ?_
  refine .al hs ?_; clear hs; intro p_b2 w_2 hs n2 kb_b2
  refine sq ?_
  refine .al hs ?_; clear hs; intro p_b3 w_3 hs n3 kb_b3
  refine sq ?_
  refine .mv ?_
  apply wpSq_end
  refine hK1 _ _ ?_
  refine wp_seq_k ?_
  intro K2 hK2
  refine rg [0, 1, 2, 3, 4, 5, 6, 7, 8] ?_
  refine sq ?_
  intro K hK
  have d0 : w_3.cell? ⟨p_b1, 0, none⟩ = some (.bool n_0a) := hs.g2.cell 0 rfl
  have d1 : w_3.cell? ⟨p_b1, 1, none⟩ = some (.slice o_0a k_0a c_0a) := hs.g2.cell 1 rfl
  have d2 : w_3.cell? ⟨p_b1, 2, none⟩ = some (.bool n_0b) := hs.g2.cell 2 rfl
  have d3 : w_3.cell? ⟨p_b1, 3, none⟩ = some (.slice o_0b k_0b c_0b) := hs.g2.cell 3 rfl
  have d4 : w_3.cell? ⟨p_b1, 4, none⟩ = some (.bool n_0c) := hs.g2.cell 4 rfl
  have d5 : w_3.cell? ⟨p_b1, 5, none⟩ = some (.slice o_0c k_0c c_0c) := hs.g2.cell 5 rfl
  have d6 : w_3.cell? ⟨p_b1, 6, none⟩ = some (.bool n_0d) := hs.g2.cell 6 rfl
  have d7 : w_3.cell? ⟨p_b1, 7, none⟩ = some (.slice o_0d k_0d c_0d) := hs.g2.cell 7 rfl
  go_big_op; refine hK _ _ rfl trivial ?_; clear hK K d0 d1 d2 d3 d4 d5 d6 d7
  refine sq ?_
  intro K hK
  have k0_3 := ((kb n1).b n2).b n3
  replace ha1 := ha1.k k0_3
  replace ha2 := ha2.k k0_3
  replace ha3 := ha3.k k0_3
  replace ha4 := ha4.k k0_3
  go_big_op
  go_fit (od_any (CN.mk' ha1 ha2 ha3 ha4) (by omega) (by omega) (by omega) (by omega) )
  rintro e w_4 ⟨_, v_da, rfl, ⟨n_gaa, o_gaa, k_gaa, c_gaa, n_gab, o_gab, k_gab, c_gab, rfl, ga1, ga2⟩, da, hb_4⟩
  replace hs := hs.bl hb_4
  obtain ⟨n_da, o_da, k_da, c_da, rfl⟩ := da.open2
  have Lga1 := hide (ga1.lenOf ((zlen_mul (ha1.len) (od_len (ha2.len) (ha4.len)).1)))
  have Lga2 := hide (ga2.lenOf ((zlen_mul (ha3.len) (od_len (ha2.len) (ha4.len)).2)))
  have Lda := hide (da.lenOf ((zlen_mul (ha2.len) (od_len (ha2.len) (ha4.len)).1)))
  refine hK _ _ rfl trivial ?_
  clear hK K
  refine sq ?_
  refine .mv ?_
  refine sq ?_
  refine .r0 ?_
  refine sq ?_
  refine .r0 ?_
  refine sq ?_
  refine .al hs ?_; clear hs; intro p_b4 w_5 hs n5 kb_b4
  refine sq ?_
  refine .al hs ?_; clear hs; intro p_b5 w_6 hs n6 kb_b5
  refine sq ?_
  refine .s4 hs.g1 (fun _ => hs.u1 kb_b4) ?_; clear hs; intro w_7 hs hd7 ho7
  refine sq ?_
  refine .s2 hs.g0 (fun _ => hs.u0 kb_b5) ?_; clear hs; intro w_8 hs hd8 ho8
  apply wpSq_end
  refine hK2 _ _ ?_
  refine wp_seq_k ?_
  intro K3 hK3
  refine rg [0, 1, 2, 3, 4, 5, 6, 7, 8] ?_
  refine sq ?_
  intro K hK
  have d0 : w_8.cell? ⟨p_b2, 0, none⟩ = some (.bool n_1a) := hs.g3.cell 0 rfl
  have d1 : w_8.cell? ⟨p_b2, 1, none⟩ = some (.slice o_1a k_1a c_1a) := hs.g3.cell 1 rfl
  have d2 : w_8.cell? ⟨p_b2, 2, none⟩ = some (.bool n_1b) := hs.g3.cell 2 rfl
  have d3 : w_8.cell? ⟨p_b2, 3, none⟩ = some (.slice o_1b k_1b c_1b) := hs.g3.cell 3 rfl
  have d4 : w_8.cell? ⟨p_b2, 4, none⟩ = some (.bool n_1c) := hs.g3.cell 4 rfl
  have d5 : w_8.cell? ⟨p_b2, 5, none⟩ = some (.slice o_1c k_1c c_1c) := hs.g3.cell 5 rfl
  have d6 : w_8.cell? ⟨p_b2, 6, none⟩ = some (.bool n_1d) := hs.g3.cell 6 rfl
  have d7 : w_8.cell? ⟨p_b2, 7, none⟩ = some (.slice o_1d k_1d c_1d) := hs.g3.cell 7 rfl
  go_big_op; refine hK _ _ rfl trivial ?_; clear hK K d0 d1 d2 d3 d4 d5 d6 d7
  refine sq ?_
  intro K hK
  have k0_8 := ((((k0_3.b hb_4).b n5).b n6).o hd7 ho7).o hd8 ho8
  replace hq1 := hq1.k k0_8
  replace hq2 := hq2.k k0_8
  replace hq3 := hq3.k k0_8
  replace hq4 := hq4.k k0_8
  go_big_op
  go_fit (od_any (CN.mk' hq1 hq2 hq3 hq4) (by omega) (by omega) (by omega) (by omega) )
  rintro e w_9 ⟨_, v_db, rfl, ⟨n_gba, o_gba, k_gba, c_gba, n_gbb, o_gbb, k_gbb, c_gbb, rfl, gb1, gb2⟩, db, hb_9⟩
  replace hs := hs.bl hb_9
  obtain ⟨n_db, o_db, k_db, c_db, rfl⟩ := db.open2
  have Lgb1 := hide (gb1.lenOf ((zlen_mul (hq1.len) (od_len (hq2.len) (hq4.len)).1)))
  have Lgb2 := hide (gb2.lenOf ((zlen_mul (hq3.len) (od_len (hq2.len) (hq4.len)).2)))
  have Ldb := hide (db.lenOf ((zlen_mul (hq2.len) (od_len (hq2.len) (hq4.len)).1)))
  refine hK _ _ rfl trivial ?_
  clear hK K
  refine sq ?_
  refine .mv ?_
  refine sq ?_
  refine .r0 ?_
  refine sq ?_
  refine .r0 ?_
  refine sq ?_
  refine .al hs ?_; clear hs; intro p_b6 w_10 hs n10 kb_b6
  clear ha1 ha2 ha3 ha4 hq1 hq2 hq3 hq4
  refine sq ?_
  refine .al hs ?_; clear hs; intro p_b7 w_11 hs n11 kb_b7
  refine sq ?_
  refine .s4 hs.g1 (fun _ => hs.u1 kb_b6) ?_; clear hs; intro w_12 hs hd12 ho12
  refine sq ?_
  refine .s2 hs.g0 (fun _ => hs.u0 kb_b7) ?_; clear hs; intro w_13 hs hd13 ho13
  apply wpSq_end
  refine hK3 _ _ ?_
  refine wp_seq_k ?_
  intro K4 hK4
  refine wp_seq_k ?_
  intro K5 hK5
  refine rg [0, 1, 2] ?_
  refine sq ?_
  refine .r2 hs.g0.f2 ?_
  refine sq ?_
  intro K hK
  have k9_13 := (((kb n10).b n11).o hd12 ho12).o hd13 ho13
  replace db := db.k k9_13
  go_big_op
  go_fit (zsign_any (db.zn Ldb.out) (by omega) )
  rintro e w_14 ⟨rfl, hb_14⟩
  replace hs := hs.bl hb_14
  rw [HSg.out]
  refine hK _ _ rfl trivial ?_
  clear hK K
  refine sq ?_
  refine .r0 ?_
  apply wpSq_end
  refine hK5 _ _ ?_
  refine wp_cond_false (congrArg Value.bool (show _ = false from (by simpa using HS))) ?_
  refine wp_skip ?_
  refine hK4 _ _ ?_
  refine wp_seq_k ?_
  intro K6 hK6
  refine wp_region_f4 [(0, false), (1, false), (2, false), (4, false), (3, true), (5, true), (6, true)] [7] [] (fun _ => default) [0, 1, 99, 99, 2, 99, 99, 99] [(7, 0)] (.c hs.g3 (.c hs.g0 (.c hs.g1 .n))) fn fun w_15 n15 => ?_
  replace hs := hs.bl n15
  refine f4 ?_
  refine f2 ?_
  refine f0 ?_
  refine f4 ?_
  refine fl fun w_16 n16 => ?_
  replace hs := hs.bl n16
  intro K hK
  have k4_16 := (((((((((((kb n5).b n6).o hd7 ho7).o hd8 ho8).b hb_9).b n10).b n11).o hd12 ho12).o hd13 ho13).b hb_14).b n15).b n16
  replace ga1 := ga1.k k4_16
  replace ga2 := ga2.k k4_16
  have k13_16 := ((kb hb_14).b n15).b n16
  replace db := db.k k13_16
  go_big_op
  go_fit (gMul_any (PN.mk' (ga1.zn Lga1.out) (ga2.zn Lga2.out)) (PN.mk' (db.zn Ldb.out) ((zc_zero w_16).zn zlen_0)) (by omega) (by omega) (by omega) (by omega) )
  rintro e w_17 ⟨_, rfl, ⟨n_gma, o_gma, k_gma, c_gma, n_gmb, o_gmb, k_gmb, c_gmb, rfl, gm1, gm2⟩, hb_17⟩
  replace hs := hs.bl hb_17
  have Lgm1 := hide (gm1.lenOf (zlen_sub (zlen_mul (Lga1.out) (Ldb.out)) (zlen_mul (Lga2.out) (zlen_0))))
  have Lgm2 := hide (gm2.lenOf (zlen_add (zlen_mul (Lga1.out) (zlen_0)) (zlen_mul (Lga2.out) (Ldb.out))))
  refine hK _ _ rfl ⟨hb_17, (And.intro hs.g3 (And.intro hs.g0 (And.intro hs.g1 trivial)))⟩ ?_
  clear hK K
  refine fl fun w_18 n18 => ?_
  replace hs := hs.bl n18
  intro K hK
  have k9_18 := ((((k9_13.b hb_14).b n15).b n16).b hb_17).b n18
  replace gb1 := gb1.k k9_18
  replace gb2 := gb2.k k9_18
  go_big_op
  go_fit (gConj_any (PN.mk' (gb1.zn Lgb1.out) (gb2.zn Lgb2.out)) (by omega) (by omega) )
  rintro e w_19 ⟨_, rfl, ⟨n_gca, o_gca, k_gca, c_gca, n_gcb, o_gcb, k_gcb, c_gcb, rfl, gc1, gc2⟩, hb_19⟩
  replace hs := hs.bl hb_19
  have Lgc1 := hide (gc1.lenOf ((Lgb1.out)))
  have Lgc2 := hide (gc2.lenOf (zlen_neg (Lgb2.out)))
  refine hK _ _ rfl ⟨hb_19, (And.intro hs.g3 (And.intro hs.g0 (And.intro hs.g1 trivial)))⟩ ?_
  clear hK K
  refine fl fun w_20 n20 => ?_
  replace hs := hs.bl n20
  intro K hK
  have k17_20 := ((kb n18).b hb_19).b n20
  replace gm1 := gm1.k k17_20
  replace gm2 := gm2.k k17_20
  have k19_20 := kb n20
  replace gc1 := gc1.k k19_20
  replace gc2 := gc2.k k19_20
  go_big_op
  go_fit (gMul_any (PN.mk' (gm1.zn Lgm1.out) (gm2.zn Lgm2.out)) (PN.mk' (gc1.zn Lgc1.out) (gc2.zn Lgc2.out)) (by omega) (by omega) (by omega) (by omega) )
  rintro e w_21 ⟨_, rfl, ⟨n_gta, o_gta, k_gta, c_gta, n_gtb, o_gtb, k_gtb, c_gtb, rfl, gt1, gt2⟩, hb_21⟩
  replace hs := hs.bl hb_21
  have Lgt1 := hide (gt1.lenOf (zlen_sub (zlen_mul (Lgm1.out) (Lgc1.out)) (zlen_mul (Lgm2.out) (Lgc2.out))))
  have Lgt2 := hide (gt2.lenOf (zlen_add (zlen_mul (Lgm1.out) (Lgc2.out)) (zlen_mul (Lgm2.out) (Lgc1.out))))
  refine hK _ _ rfl ⟨hb_21, (And.intro hs.g3 (And.intro hs.g0 (And.intro hs.g1 trivial)))⟩ ?_
  clear hK K
  refine e0 hs ?_; clear hs; intro w_22 hs n22
  refine tl ?_
  refine .s4 hs.g3 (fun _ => hs.u3 kb_b4) ?_ (e := fun _ hs => (And.intro True.intro (And.intro hs.g0 (And.intro hs.g1 True.intro)))); clear hs; intro w_23 hs hd23 ho23
  clear gm1 gm2 gc1 gc2 ga1 ga2
  apply wpTail_end
  refine hK6 _ _ ?_
  refine wp_seq_k ?_
  intro K7 hK7
  refine wp_region_f4 [(0, false), (1, false), (2, false), (3, true), (4, true), (5, true), (6, true), (7, false), (8, false)] [9, 10] [] (fun _ => default) [0, 1, 2, 99, 99, 99, 99, 99, 99, 99, 99] [] (.c hs.g3 (.c hs.g2 (.c hs.g1 .n))) fn fun w_24 n24 => ?_
  replace hs := hs.bl n24
  refine f4 ?_
  refine f2 ?_
  refine f4 ?_
  refine fl fun w_25 n25 => ?_
  replace hs := hs.bl n25
  intro K hK
  have k18_25 := ((((((kb hb_19).b n20).b hb_21).b n22).o hd23 ho23).b n24).b n25
  replace gb1 := gb1.k k18_25
  replace gb2 := gb2.k k18_25
  go_big_op
  go_fit (gNorm_any (PN.mk' (gb1.zn Lgb1.out) (gb2.zn Lgb2.out)) (by omega) (by omega) )
  rintro e w_26 ⟨v_nn, rfl, nn, hb_26⟩
  replace hs := hs.bl hb_26
  obtain ⟨n_nn, o_nn, k_nn, c_nn, rfl⟩ := nn.open2
  have Lnn := hide (nn.lenOf (zlen_add (zlen_mul (Lgb1.out) (Lgb1.out)) (zlen_mul (Lgb2.out) (Lgb2.out))))
  refine hK _ _ rfl ⟨hb_26, (And.intro hs.g3 (And.intro hs.g2 (And.intro hs.g1 trivial)))⟩ ?_
  clear hK K
  refine fl fun w_27 n27 => ?_
  replace hs := hs.bl n27
  intro K hK
  have k4_27 := ((((((((((k4_16.b hb_17).b n18).b hb_19).b n20).b hb_21).b n22).o hd23 ho23).b n24).b n25).b hb_26).b n27
  replace da := da.k k4_27
  have k26_27 := kb n27
  replace nn := nn.k k26_27
  go_big_op
  go_fit (zmul_any (da.zn Lda.out) (nn.zn Lnn.out) (by omega) (by omega) )
  rintro e w_28 ⟨v_dm, rfl, dm, hb_28⟩
  replace hs := hs.bl hb_28
  replace dm := dm.rd
  obtain ⟨n_dm, o_dm, k_dm, c_dm, rfl⟩ := dm.open2
  have Ldm := hide (dm.lenOf (zlen_mul (Lda.out) (Lnn.out)))
  refine hK _ _ rfl ⟨hb_28, (And.intro hs.g3 (And.intro hs.g2 (And.intro hs.g1 trivial)))⟩ ?_
  clear hK K
  refine fl fun w_29 n29 => ?_
  replace hs := hs.bl n29
  intro K hK
  have k21_29 := (((((((kb n22).o hd23 ho23).b n24).b n25).b hb_26).b n27).b hb_28).b n29
  replace gt1 := gt1.k k21_29
  replace gt2 := gt2.k k21_29
  have k28_29 := kb n29
  replace dm := dm.k k28_29
  go_big_op
  go_fit (over_c (PN.mk' (gt1.zn Lgt1.out) (gt2.zn Lgt2.out)) (dm.zn Ldm.out)  )
  rintro e w_30 ⟨_, rfl, ⟨n_ov1, o_ov1, k_ov1, c_ov1, n_ov2, o_ov2, k_ov2, c_ov2, n_ov3, o_ov3, k_ov3, c_ov3, n_ov4, o_ov4, k_ov4, c_ov4, rfl, ov1, ov2, ov3, ov4⟩, hb_30⟩
  replace hs := hs.bl hb_30
  have Lov1 := hide (ov1.lenOf ((Lgt1.out)))
  have Lov2 := hide (ov2.lenOf ((Ldm.out)))
  have Lov3 := hide (ov3.lenOf ((Lgt2.out)))
  have Lov4 := hide (ov4.lenOf ((Ldm.out)))
  refine hK _ _ rfl ⟨hb_30, (And.intro hs.g3 (And.intro hs.g2 (And.intro hs.g1 trivial)))⟩ ?_
  clear hK K
  refine fl fun w_31 n31 => ?_
  replace hs := hs.bl n31
  intro K hK
  have k30_31 := kb n31
  replace ov1 := ov1.k k30_31
  replace ov2 := ov2.k k30_31
  replace ov3 := ov3.k k30_31
  replace ov4 := ov4.k k30_31
  go_big_op
  go_fit (low_ok (CN.mk' ov1 ov2 ov3 ov4) (by omega) (by omega) (by omega) (by omega) HD.out HD.out)
  rintro e w_32 ⟨_, rfl, ⟨n_r1, o_r1, k_r1, c_r1, n_r2, o_r2, k_r2, c_r2, n_r3, o_r3, k_r3, c_r3, n_r4, o_r4, k_r4, c_r4, rfl, r1, r2, r3, r4⟩, hb_32⟩
  replace hs := hs.bl hb_32
  have Lr1 := hide (r1.lenOf ((r_len (HD.out) rfl (ov1.len) (ov2.len)).1))
  have Lr2 := hide (r2.lenOf ((r_len (HD.out) rfl (ov1.len) (ov2.len)).2))
  have Lr3 := hide (r3.lenOf ((r_len (HD.out) rfl (ov3.len) (ov4.len)).1))
  have Lr4 := hide (r4.lenOf ((r_len (HD.out) rfl (ov3.len) (ov4.len)).2))
  rw [HM.out.1] at r1 r2
  rw [HM.out.2] at r3 r4
  refine hK _ _ rfl ⟨hb_32, (And.intro hs.g3 (And.intro hs.g2 (And.intro hs.g1 trivial)))⟩ ?_
  clear hK K
  refine f0 ?_
  refine f0 ?_
  refine e0 hs ?_; clear hs; intro w_33 hs n33
  clear db nn dm ov1 ov2 ov3 ov4
  refine tl ?_
  intro K hK
  have xs := hs.g4
  have d0 : w_33.cell? ⟨p_b3, 0, none⟩ = some (.bool false) := hs.g4.cell 0 rfl
  have d1 : w_33.cell? ⟨p_b3, 1, none⟩ = some (.slice none 0 0) := hs.g4.cell 1 rfl
  have d2 : w_33.cell? ⟨p_b3, 2, none⟩ = some (.bool false) := hs.g4.cell 2 rfl
  have d3 : w_33.cell? ⟨p_b3, 3, none⟩ = some (.slice none 0 0) := hs.g4.cell 3 rfl
  have d4 : w_33.cell? ⟨p_b3, 4, none⟩ = some (.bool false) := hs.g4.cell 4 rfl
  have d5 : w_33.cell? ⟨p_b3, 5, none⟩ = some (.slice none 0 0) := hs.g4.cell 5 rfl
  have d6 : w_33.cell? ⟨p_b3, 6, none⟩ = some (.bool false) := hs.g4.cell 6 rfl
  have d7 : w_33.cell? ⟨p_b3, 7, none⟩ = some (.slice none 0 0) := hs.g4.cell 7 rfl
  have f0 := xs.free 0; have f1 := xs.free 1; have f2 := xs.free 2; have f3 := xs.free 3; have f4 := xs.free 4; have f5 := xs.free 5; have f6 := xs.free 6; have f7 := xs.free 7
  go_big_op
  have hd34 := xs.nod rfl rfl
  obtain ⟨w_34_0, eW, xs_0, ho_0⟩ : ∃ w', ((((w_33.setCell ⟨p_b3, 0, none⟩ (.bool n_r1)).setCell ⟨p_b3, 1, none⟩ (.slice o_r1 k_r1 c_r1)).setCell ⟨p_b3, 2, none⟩ (.bool n_r2)).setCell ⟨p_b3, 3, none⟩ (.slice o_r2 k_r2 c_r2)) = w' ∧ Bs w' p_b3 #[.bool n_r1, .slice o_r1 k_r1 c_r1, .bool n_r2, .slice o_r2 k_r2 c_r2, .bool false, .slice none 0 0, .bool false, .slice none 0 0] 55 ∧ Only p_b3 w_33 w' := xs.setN [(0, .bool n_r1), (1, .slice o_r1 k_r1 c_r1), (2, .bool n_r2), (3, .slice o_r2 k_r2 c_r2)]
  rw [eW]; clear eW
  obtain ⟨w_34, eW, xs', ho_4⟩ : ∃ w', ((((w_34_0.setCell ⟨p_b3, 4, none⟩ (.bool n_r3)).setCell ⟨p_b3, 5, none⟩ (.slice o_r3 k_r3 c_r3)).setCell ⟨p_b3, 6, none⟩ (.bool n_r4)).setCell ⟨p_b3, 7, none⟩ (.slice o_r4 k_r4 c_r4)) = w' ∧ Bs w' p_b3 #[.bool n_r1, .slice o_r1 k_r1 c_r1, .bool n_r2, .slice o_r2 k_r2 c_r2, .bool n_r3, .slice o_r3 k_r3 c_r3, .bool n_r4, .slice o_r4 k_r4 c_r4] 55 ∧ Only p_b3 w_34_0 w' := xs_0.setN [(4, .bool n_r3), (5, .slice o_r3 k_r3 c_r3), (6, .bool n_r4), (7, .slice o_r4 k_r4 c_r4)]
  rw [eW]; clear eW xs_0
  have ho34 := (ho_0.trans ho_4)
  clear ho_0 ho_4 d0 d1 d2 d3 d4 d5 d6 d7 f0 f1 f2 f3 f4 f5 f6 f7 xs
  replace hs := hs.u4 kb_b3 xs' ho34; clear xs'
  refine hK _ _ rfl (And.intro hs.g3 (And.intro hs.g2 (And.intro hs.g1 True.intro))) ?_; clear hK K
  refine tl ?_
  refine .mv ?_ (e := (And.intro hs.g3 (And.intro hs.g2 (And.intro hs.g1 True.intro))))
  apply wpTail_end
  refine hK7 _ _ ?_
  refine wp_ret ?_
  try dsimp only [Exit.then, Exit.inBlock]
  have r0_0 : w_34.cell? ⟨p_b3, 0, none⟩ = some (.bool n_r1) := hs.g4.cell 0 rfl
  have r0_1 : w_34.cell? ⟨p_b3, 1, none⟩ = some (.slice o_r1 k_r1 c_r1) := hs.g4.cell 1 rfl
  have r0_2 : w_34.cell? ⟨p_b3, 2, none⟩ = some (.bool n_r2) := hs.g4.cell 2 rfl
  have r0_3 : w_34.cell? ⟨p_b3, 3, none⟩ = some (.slice o_r2 k_r2 c_r2) := hs.g4.cell 3 rfl
  have r0_4 : w_34.cell? ⟨p_b3, 4, none⟩ = some (.bool n_r3) := hs.g4.cell 4 rfl
  have r0_5 : w_34.cell? ⟨p_b3, 5, none⟩ = some (.slice o_r3 k_r3 c_r3) := hs.g4.cell 5 rfl
  have r0_6 : w_34.cell? ⟨p_b3, 6, none⟩ = some (.bool n_r4) := hs.g4.cell 6 rfl
  have r0_7 : w_34.cell? ⟨p_b3, 7, none⟩ = some (.slice o_r4 k_r4 c_r4) := hs.g4.cell 7 rfl
  refine bodyPost_ret (v := (.tuple #[(.agg #[.bool n_r1, .slice o_r1 k_r1 c_r1, .bool n_r2, .slice o_r2 k_r2 c_r2, .bool n_r3, .slice o_r3 k_r3 c_r3, .bool n_r4, .slice o_r4 k_r4 c_r4]), (.int .i64 0)])) (by simp [results, Tryz.results50, go_sem, r0_0, r0_1, r0_2, r0_3, r0_4, r0_5, r0_6, r0_7]) rfl ?_
  have k32_34 := (kb n33).o hd34 ho34
  replace r1 := r1.k k32_34
  replace r2 := r2.k k32_34
  replace r3 := r3.k k32_34
  replace r4 := r4.k k32_34
  exact ⟨_, rfl, .mk' r1 r2 r3 r4, hs.b⟩
end
/-- A closure that tells a value of one part. -/
def TellsV (w : World) (f : Nat) (caps : Array Value) (s : Nat) (v : Value) : Prop :=
  ∀ w1, Below w.heap.size w w1 → Calls Tryz.prog f (#[.func (.func s) #[] #[]] ++ caps) w1 fun e w2 => e = .returned (.tuple #[v, .int .i64 0]) ∧ Below w1.heap.size w1 w2
section
variable {w : World} {va vb : Value} {x y u v p q s t : Int} {l m k n l2 m2 k2 n2 : Nat}
set_option maxHeartbeats 4000000 in
set_option maxRecDepth 20000 in
theorem selstring1 (ha : CN w va x l y m u k v n) :
    Calls Tryz.prog 88 #[va] w fun e w' => ∃ r, e = .returned r ∧ PN w' r x l y m ∧ Below w.heap.size w w' := by
  obtain ⟨n_0a, o_0a, k_0a, c_0a, n_0b, o_0b, k_0b, c_0b, n_0c, o_0c, k_0c, c_0c, n_0d, o_0d, k_0d, c_0d, rfl, ha1, ha2, ha3, ha4⟩ := ha
  go_enter Tryz.func88, Tryz.ntmps88
  have hs := St.nil w
  refine wp_seq_k ?_
  intro K1 hK1
  refine rg [0, 1] ?_
  refine sq ?_
  refine .al hs ?_; clear hs; intro p_b1 w_1 hs n1 kb_b1
  refine sq ?_
  refine .al hs ?_; clear hs; intro p_b2 w_2 hs n2 kb_b2
  apply wpSq_end
  refine hK1 _ _ ?_
  refine wp_seq_k ?_
  intro K2 hK2
  refine rg [0, 1, 2] ?_
  refine sq ?_
  refine .r0 ?_
  refine sq ?_
  refine .r4 ⟨hs.g1.cell 0 rfl, hs.g1.cell 1 rfl, hs.g1.cell 2 rfl, hs.g1.cell 3 rfl⟩ ?_
  refine sq ?_
  refine .s4 hs.g0 (fun _ => hs.u0 kb_b2) ?_; clear hs; intro w_3 hs hd3 ho3
  apply wpSq_end
  refine hK2 _ _ ?_
  refine wp_ret ?_
  try dsimp only [Exit.then, Exit.inBlock]
  obtain ⟨r0_0, r0_1, r0_2, r0_3⟩ := hs.g0.f4
  refine bodyPost_ret (v := (.agg #[.bool n_0a, .slice o_0a k_0a c_0a, .bool n_0b, .slice o_0b k_0b c_0b])) (by simp [results, Tryz.results88, go_sem, r0_0, r0_1, r0_2, r0_3]) rfl ?_
  have k0_3 := ((kb n1).b n2).o hd3 ho3
  replace ha1 := ha1.k k0_3
  replace ha2 := ha2.k k0_3
  exact ⟨_, rfl, .mk' ha1 ha2, hs.b⟩
set_option maxHeartbeats 4000000 in
set_option maxRecDepth 20000 in
theorem selstring2 (ha : CN w va x l y m u k v n) :
    Calls Tryz.prog 89 #[va] w fun e w' => ∃ r, e = .returned r ∧ PN w' r u k v n ∧ Below w.heap.size w w' := by
  obtain ⟨n_0a, o_0a, k_0a, c_0a, n_0b, o_0b, k_0b, c_0b, n_0c, o_0c, k_0c, c_0c, n_0d, o_0d, k_0d, c_0d, rfl, ha1, ha2, ha3, ha4⟩ := ha
  go_enter Tryz.func89, Tryz.ntmps89
  have hs := St.nil w
  refine wp_seq_k ?_
  intro K1 hK1
  refine rg [0, 1] ?_
  refine sq ?_
  refine .al hs ?_; clear hs; intro p_b1 w_1 hs n1 kb_b1
  refine sq ?_
  refine .al hs ?_; clear hs; intro p_b2 w_2 hs n2 kb_b2
  apply wpSq_end
  refine hK1 _ _ ?_
  refine wp_seq_k ?_
  intro K2 hK2
  refine rg [0, 1, 2] ?_
  refine sq ?_
  refine .r0 ?_
  refine sq ?_
  refine .r4 ⟨hs.g1.cell 4 rfl, hs.g1.cell 5 rfl, hs.g1.cell 6 rfl, hs.g1.cell 7 rfl⟩ ?_
  refine sq ?_
  refine .s4 hs.g0 (fun _ => hs.u0 kb_b2) ?_; clear hs; intro w_3 hs hd3 ho3
  apply wpSq_end
  refine hK2 _ _ ?_
  refine wp_ret ?_
  try dsimp only [Exit.then, Exit.inBlock]
  obtain ⟨r0_0, r0_1, r0_2, r0_3⟩ := hs.g0.f4
  refine bodyPost_ret (v := (.agg #[.bool n_0c, .slice o_0c k_0c c_0c, .bool n_0d, .slice o_0d k_0d c_0d])) (by simp [results, Tryz.results89, go_sem, r0_0, r0_1, r0_2, r0_3]) rfl ?_
  have k0_3 := ((kb n1).b n2).o hd3 ho3
  replace ha3 := ha3.k k0_3
  replace ha4 := ha4.k k0_3
  exact ⟨_, rfl, .mk' ha3 ha4, hs.b⟩
end
section
variable {w : World} {f : Nat} {caps : Array Value}
set_option maxHeartbeats 4000000 in
set_option maxRecDepth 20000 in
theorem bothstring_ok {a b : ByteArray} (hf : Enters f caps) (hc1 : TellsV w f caps 88 (.string a)) (hc2 : TellsV w f caps 89 (.string b)) :
    Calls Tryz.prog 52 #[.func (.func f) #[] caps] w fun e w' => e = .returned (.tuple #[.string a, .string b, .int .i64 0]) ∧ Below w.heap.size w w' := by
  unfold Enters at hf
  go_enter Tryz.func52, Tryz.ntmps52
  have hs := St.nil w
  refine wp_seq_k ?_
  intro K1 hK1
  refine rg [0, 1, 2] ?_
  refine sq ?_
  refine .mv ?_
  refine sq ?_
  refine .mv ?_
  refine sq ?_
  refine .mv ?_
  apply wpSq_end
  refine hK1 _ _ ?_
  refine wp_seq_k ?_
  intro K2 hK2
  refine rg [0] ?_
  refine sq ?_
  refine .mv ?_
  apply wpSq_end
  refine hK2 _ _ ?_
  refine wp_seq_k ?_
  intro K3 hK3
  refine rg [0, 1, 2, 3, 4, 5, 6] ?_
  refine sq ?_
  refine .mv ?_
  refine sq ?_
  intro K hK
  have hb := hs.b
  go_big_op
  go_fit (hc1 _ hb)
  rintro e w_1 ⟨rfl, hb_1⟩
  clear hb
  replace hs := hs.bl hb_1
  refine hK _ _ rfl trivial ?_
  clear hK K
  refine sq ?_
  refine .mv ?_
  refine sq ?_
  refine .r0 ?_
  refine sq ?_
  refine .r0 ?_
  refine sq ?_
  refine .mv ?_
  refine sq ?_
  refine .mv ?_
  apply wpSq_end
  refine hK3 _ _ ?_
  refine wp_seq_k ?_
  intro K4 hK4
  refine wp_seq_k ?_
  intro K5 hK5
  refine rg [0, 1] ?_
  refine sq ?_
  refine .mv ?_
  refine sq ?_
  refine .r0 ?_
  apply wpSq_end
  refine hK5 _ _ ?_
  refine cf ?_
  refine wp_skip ?_
  refine hK4 _ _ ?_
  refine wp_seq_k ?_
  intro K6 hK6
  refine rg [0, 1, 2, 3, 4, 5, 6] ?_
  refine sq ?_
  refine .mv ?_
  refine sq ?_
  intro K hK
  have hb := hs.b
  go_big_op
  go_fit (hc2 _ hb)
  rintro e w_2 ⟨rfl, hb_2⟩
  clear hb
  replace hs := hs.bl hb_2
  refine hK _ _ rfl trivial ?_
  clear hK K
  refine sq ?_
  refine .mv ?_
  refine sq ?_
  refine .r0 ?_
  refine sq ?_
  refine .r0 ?_
  refine sq ?_
  refine .mv ?_
  refine sq ?_
  refine .mv ?_
  apply wpSq_end
  refine hK6 _ _ ?_
  refine wp_seq_k ?_
  intro K7 hK7
  refine wp_seq_k ?_
  intro K8 hK8
  refine rg [0, 1] ?_
  refine sq ?_
  refine .mv ?_
  refine sq ?_
  refine .r0 ?_
  apply wpSq_end
  refine hK8 _ _ ?_
  refine cf ?_
  refine wp_skip ?_
  refine hK7 _ _ ?_
  refine wp_seq_k ?_
  intro K9 hK9
  refine rg [0, 1, 2, 3, 4] ?_
  refine sq ?_
  refine .mv ?_
  refine sq ?_
  refine .mv ?_
  refine sq ?_
  refine .mv ?_
  refine sq ?_
  refine .mv ?_
  refine sq ?_
  refine .mv ?_
  apply wpSq_end
  refine hK9 _ _ ?_
  refine wp_ret ?_
  try dsimp only [Exit.then, Exit.inBlock]
  refine bodyPost_ret (v := (.tuple #[(.string a), (.string b), (.int .i64 0)])) (by simp [results, Tryz.results52, go_sem]) rfl ?_
  have hb := hs.b
  exact ⟨rfl, hb⟩
end
section
variable {w : World} {va vb : Value} {x y u v p q s t : Int} {l m k n l2 m2 k2 n2 : Nat}
set_option maxHeartbeats 4000000 in
set_option maxRecDepth 20000 in
theorem ctext1_ok {pa : Nat} (hp : BC w pa x l y m u k v n) (hl : l ≤ 10000000) (hm : m ≤ 10000000) (hk : k ≤ 10000000) (hn : n ≤ 10000000) (h0 : y ≠ 0) (htab : Lib.TabIs Tryz.prog w p10 .u64 Lib.pow10Tab) :
    Calls Tryz.prog 53 (#[.func (.func 88) #[] #[]] ++ #[.pointer (some ⟨pa, 0, none⟩)]) w fun e w' => e = .returned (.tuple #[.string (qts x y), .int .i64 0]) ∧ Below w.heap.size w w' := by
  have htabs := Lib.tabBelow_of_tabIs htab
  have H0 := hide h0
  obtain ⟨S, hS⟩ : ∃ S, qts x y = S := ⟨_, rfl⟩
  have HS := hide hS
  rw [hS]
  clear h0 hS
  obtain ⟨n1, o1, k1, c1, n2', o2, k2', c2, n3, o3, k3, c3, n4, o4, k4, c4, xa, h1, h2, h3, h4⟩ := hp
  show Calls Tryz.prog 53 #[.func (.func 88) #[] #[], .pointer (some ⟨pa, 0, none⟩)] w _
  go_enter Tryz.func53, Tryz.ntmps53
  have hs := St.nil w
  have lt_xa := xa.lt
  have xaz := xa
  refine wp_seq_k ?_
  intro K1 hK1
  refine rg [0, 1] ?_
  refine sq ?_
  refine .mv ?_
  refine sq ?_
  refine .mv ?_
  apply wpSq_end
  refine hK1 _ _ ?_
  refine wp_seq_k ?_
  intro K2 hK2
  refine rg [0, 1, 2, 3, 4, 5, 6, 7] ?_
  refine sq ?_
  refine .mv ?_
  refine sq ?_
  intro K hK
  have d0 : w.cell? ⟨pa, 0, none⟩ = some (.bool n1) := xa.cell 0 rfl
  have d1 : w.cell? ⟨pa, 1, none⟩ = some (.slice o1 k1 c1) := xa.cell 1 rfl
  have d2 : w.cell? ⟨pa, 2, none⟩ = some (.bool n2') := xa.cell 2 rfl
  have d3 : w.cell? ⟨pa, 3, none⟩ = some (.slice o2 k2' c2) := xa.cell 3 rfl
  have d4 : w.cell? ⟨pa, 4, none⟩ = some (.bool n3) := xa.cell 4 rfl
  have d5 : w.cell? ⟨pa, 5, none⟩ = some (.slice o3 k3 c3) := xa.cell 5 rfl
  have d6 : w.cell? ⟨pa, 6, none⟩ = some (.bool n4) := xa.cell 6 rfl
  have d7 : w.cell? ⟨pa, 7, none⟩ = some (.slice o4 k4 c4) := xa.cell 7 rfl
  go_big_op; refine hK _ _ rfl trivial ?_; clear hK K d0 d1 d2 d3 d4 d5 d6 d7
  refine sq ?_
  intro K hK
  go_big_op
  go_fit (selstring1 (.mk' h1 h2 h3 h4))
  rintro e w_1 ⟨_, rfl, ⟨n_gaa, o_gaa, k_gaa, c_gaa, n_gab, o_gab, k_gab, c_gab, rfl, ga1, ga2⟩, hb_1⟩
  replace hs := hs.bl hb_1
  refine hK _ _ rfl trivial ?_
  clear hK K
  refine sq ?_
  intro K hK
  have hb := hs.b
  go_big_op
  go_fit (fText_any (.mk' ga1 ga2) (by omega) (by omega) H0.out (htabs _ hb))
  rintro e w_2 ⟨rfl, hb_2⟩
  clear hb
  replace hs := hs.bl hb_2
  rw [HS.out]
  refine hK _ _ rfl trivial ?_
  clear hK K
  refine sq ?_
  refine .r0 ?_
  refine sq ?_
  refine .r0 ?_
  refine sq ?_
  refine .mv ?_
  refine sq ?_
  refine .mv ?_
  apply wpSq_end
  refine hK2 _ _ ?_
  refine wp_ret ?_
  try dsimp only [Exit.then, Exit.inBlock]
  refine bodyPost_ret (v := (.tuple #[(.string S), (.int .i64 0)])) (by simp [results, Tryz.results53, go_sem]) rfl ?_
  have hb := hs.b
  exact ⟨rfl, hb⟩
set_option maxHeartbeats 4000000 in
set_option maxRecDepth 20000 in
theorem ctext2_ok {pa : Nat} (hp : BC w pa x l y m u k v n) (hl : l ≤ 10000000) (hm : m ≤ 10000000) (hk : k ≤ 10000000) (hn : n ≤ 10000000) (h0 : v ≠ 0) (htab : Lib.TabIs Tryz.prog w p10 .u64 Lib.pow10Tab) :
    Calls Tryz.prog 53 (#[.func (.func 89) #[] #[]] ++ #[.pointer (some ⟨pa, 0, none⟩)]) w fun e w' => e = .returned (.tuple #[.string (qts u v), .int .i64 0]) ∧ Below w.heap.size w w' := by
  have htabs := Lib.tabBelow_of_tabIs htab
  have H0 := hide h0
  obtain ⟨S, hS⟩ : ∃ S, qts u v = S := ⟨_, rfl⟩
  have HS := hide hS
  rw [hS]
  clear h0 hS
  obtain ⟨n1, o1, k1, c1, n2', o2, k2', c2, n3, o3, k3, c3, n4, o4, k4, c4, xa, h1, h2, h3, h4⟩ := hp
  show Calls Tryz.prog 53 #[.func (.func 89) #[] #[], .pointer (some ⟨pa, 0, none⟩)] w _
  go_enter Tryz.func53, Tryz.ntmps53
  have hs := St.nil w
  have lt_xa := xa.lt
  have xaz := xa
  refine wp_seq_k ?_
  intro K1 hK1
  refine rg [0, 1] ?_
  refine sq ?_
  refine .mv ?_
  refine sq ?_
  refine .mv ?_
  apply wpSq_end
  refine hK1 _ _ ?_
  refine wp_seq_k ?_
  intro K2 hK2
  refine rg [0, 1, 2, 3, 4, 5, 6, 7] ?_
  refine sq ?_
  refine .mv ?_
  refine sq ?_
  intro K hK
  have d0 : w.cell? ⟨pa, 0, none⟩ = some (.bool n1) := xa.cell 0 rfl
  have d1 : w.cell? ⟨pa, 1, none⟩ = some (.slice o1 k1 c1) := xa.cell 1 rfl
  have d2 : w.cell? ⟨pa, 2, none⟩ = some (.bool n2') := xa.cell 2 rfl
  have d3 : w.cell? ⟨pa, 3, none⟩ = some (.slice o2 k2' c2) := xa.cell 3 rfl
  have d4 : w.cell? ⟨pa, 4, none⟩ = some (.bool n3) := xa.cell 4 rfl
  have d5 : w.cell? ⟨pa, 5, none⟩ = some (.slice o3 k3 c3) := xa.cell 5 rfl
  have d6 : w.cell? ⟨pa, 6, none⟩ = some (.bool n4) := xa.cell 6 rfl
  have d7 : w.cell? ⟨pa, 7, none⟩ = some (.slice o4 k4 c4) := xa.cell 7 rfl
  go_big_op; refine hK _ _ rfl trivial ?_; clear hK K d0 d1 d2 d3 d4 d5 d6 d7
  refine sq ?_
  intro K hK
  go_big_op
  go_fit (selstring2 (.mk' h1 h2 h3 h4))
  rintro e w_1 ⟨_, rfl, ⟨n_gaa, o_gaa, k_gaa, c_gaa, n_gab, o_gab, k_gab, c_gab, rfl, ga1, ga2⟩, hb_1⟩
  replace hs := hs.bl hb_1
  refine hK _ _ rfl trivial ?_
  clear hK K
  refine sq ?_
  intro K hK
  have hb := hs.b
  go_big_op
  go_fit (fText_any (.mk' ga1 ga2) (by omega) (by omega) H0.out (htabs _ hb))
  rintro e w_2 ⟨rfl, hb_2⟩
  clear hb
  replace hs := hs.bl hb_2
  rw [HS.out]
  refine hK _ _ rfl trivial ?_
  clear hK K
  refine sq ?_
  refine .r0 ?_
  refine sq ?_
  refine .r0 ?_
  refine sq ?_
  refine .mv ?_
  refine sq ?_
  refine .mv ?_
  apply wpSq_end
  refine hK2 _ _ ?_
  refine wp_ret ?_
  try dsimp only [Exit.then, Exit.inBlock]
  refine bodyPost_ret (v := (.tuple #[(.string S), (.int .i64 0)])) (by simp [results, Tryz.results53, go_sem]) rfl ?_
  have hb := hs.b
  exact ⟨rfl, hb⟩
end
section
variable {w : World} {va vb : Value} {x y u v p q s t : Int} {l m k n l2 m2 k2 n2 : Nat}
theorem rv_neg1 (x y : Int) : rv (-x) y = -rv x y := by unfold rv; rw [Rat.intCast_neg]; grind
end
section
variable {w : World} {va vb : Value} {x y u v p q s t : Int} {l m k n l2 m2 k2 n2 : Nat}
set_option maxHeartbeats 4000000 in
set_option maxRecDepth 20000 in
theorem gfOf_any (ha : PN w va x l y m) (hl : l ≤ 10000000) (hm : m ≤ 10000000) :
    Calls Tryz.prog 51 #[va] w fun e w' => ∃ r, e = .returned r ∧ CC w' r (rv x 1).num (rv x 1).den (rv y 1).num (rv y 1).den ∧ Below w.heap.size w w' := by
  have H1 := hide (show (1 : Int) ≠ 0 by decide)
  obtain ⟨n_0a, o_0a, k_0a, c_0a, n_0b, o_0b, k_0b, c_0b, rfl, ha1, ha2⟩ := ha
  go_enter Tryz.func51, Tryz.ntmps51
  have hs := St.nil w
  refine wp_seq_k ?_
  intro K1 hK1
  refine rg [0, 1] ?_
  refine sq ?_
  refine .al hs ?_; clear hs; intro p_b1 w_1 hs n1 kb_b1
  refine sq ?_
  refine .al hs ?_; clear hs; intro p_b2 w_2 hs n2 kb_b2
  apply wpSq_end
  refine hK1 _ _ ?_
  refine wp_seq_k ?_
  intro K2 hK2
  refine wp_region_f4 [(0, false), (1, true), (2, true), (3, true), (4, false), (5, false), (6, false)] [8, 9] [7] (fun j => (.cells #[.bool false, .slice none 0 0, .bool false, .slice none 0 0, .bool false, .slice none 0 0, .bool false, .slice none 0 0] 55)) [0, 99, 99, 99, 99, 99, 99, 99, 99, 99] [] (.c hs.g1 .n) (fm fn) fun w_3 n3 => ?_
  replace hs := hs.bl n3
  have hlB := hs.lt; have hkB := hs.k
  refine f4 ?_
  refine fl fun w_4 n4 => ?_
  replace hs := hs.bl n4
  intro K hK
  go_big_op
  go_fit (from_any (1 : Int) _ (by decide) (by decide))
  rintro e w_5 ⟨v_g, rfl, g, hb_5⟩
  replace hs := hs.bl hb_5
  replace g := g.rd
  obtain ⟨n_g, o_g, k_g, c_g, rfl⟩ := g.open2
  have Lg := hide (g.lenOf (zlen_i (1 : Int) (by decide) (by decide)))
  refine hK _ _ rfl ⟨hb_5, (And.intro hs.g1 trivial)⟩ ?_
  clear hK K
  refine fl fun w_6 n6 => ?_
  replace hs := hs.bl n6
  intro K hK
  have k0_6 := (((((kb n1).b n2).b n3).b n4).b hb_5).b n6
  replace ha1 := ha1.k k0_6
  replace ha2 := ha2.k k0_6
  have k5_6 := kb n6
  replace g := g.k k5_6
  go_big_op
  go_fit (over_c (PN.mk' ha1 ha2) (g.zn Lg.out)  )
  rintro e w_7 ⟨_, rfl, ⟨n_ov1, o_ov1, k_ov1, c_ov1, n_ov2, o_ov2, k_ov2, c_ov2, n_ov3, o_ov3, k_ov3, c_ov3, n_ov4, o_ov4, k_ov4, c_ov4, rfl, ov1, ov2, ov3, ov4⟩, hb_7⟩
  replace hs := hs.bl hb_7
  have Lov1 := hide (ov1.lenOf ((ha1.len)))
  have Lov2 := hide (ov2.lenOf ((Lg.out)))
  have Lov3 := hide (ov3.lenOf ((ha2.len)))
  have Lov4 := hide (ov4.lenOf ((Lg.out)))
  refine hK _ _ rfl ⟨hb_7, (And.intro hs.g1 trivial)⟩ ?_
  clear hK K
  refine fl fun w_8 n8 => ?_
  replace hs := hs.bl n8
  intro K hK
  have k7_8 := kb n8
  replace ov1 := ov1.k k7_8
  replace ov2 := ov2.k k7_8
  replace ov3 := ov3.k k7_8
  replace ov4 := ov4.k k7_8
  go_big_op
  go_fit (low_ok (CN.mk' ov1 ov2 ov3 ov4) (by omega) (by omega) (by omega) (by omega) H1.out H1.out)
  rintro e w_9 ⟨_, rfl, ⟨n_r1, o_r1, k_r1, c_r1, n_r2, o_r2, k_r2, c_r2, n_r3, o_r3, k_r3, c_r3, n_r4, o_r4, k_r4, c_r4, rfl, r1, r2, r3, r4⟩, hb_9⟩
  replace hs := hs.bl hb_9
  have Lr1 := hide (r1.lenOf ((r_len (H1.out) rfl (ov1.len) (ov2.len)).1))
  have Lr2 := hide (r2.lenOf ((r_len (H1.out) rfl (ov1.len) (ov2.len)).2))
  have Lr3 := hide (r3.lenOf ((r_len (H1.out) rfl (ov3.len) (ov4.len)).1))
  have Lr4 := hide (r4.lenOf ((r_len (H1.out) rfl (ov3.len) (ov4.len)).2))
  refine hK _ _ rfl ⟨hb_9, (And.intro hs.g1 trivial)⟩ ?_
  clear hK K
  refine fmv ?_
  refine f0 ?_
  refine f0 ?_
  refine e1 hs hlB hkB ?_; clear hs hlB hkB; intro w_10 p_b3 hs n10 kb_b3
  refine tl ?_
  intro K hK
  have xs := hs.g0
  have d0 : w_10.cell? ⟨p_b3, 0, none⟩ = some (.bool false) := hs.g0.cell 0 rfl
  have d1 : w_10.cell? ⟨p_b3, 1, none⟩ = some (.slice none 0 0) := hs.g0.cell 1 rfl
  have d2 : w_10.cell? ⟨p_b3, 2, none⟩ = some (.bool false) := hs.g0.cell 2 rfl
  have d3 : w_10.cell? ⟨p_b3, 3, none⟩ = some (.slice none 0 0) := hs.g0.cell 3 rfl
  have d4 : w_10.cell? ⟨p_b3, 4, none⟩ = some (.bool false) := hs.g0.cell 4 rfl
  have d5 : w_10.cell? ⟨p_b3, 5, none⟩ = some (.slice none 0 0) := hs.g0.cell 5 rfl
  have d6 : w_10.cell? ⟨p_b3, 6, none⟩ = some (.bool false) := hs.g0.cell 6 rfl
  have d7 : w_10.cell? ⟨p_b3, 7, none⟩ = some (.slice none 0 0) := hs.g0.cell 7 rfl
  have f0 := xs.free 0; have f1 := xs.free 1; have f2 := xs.free 2; have f3 := xs.free 3; have f4 := xs.free 4; have f5 := xs.free 5; have f6 := xs.free 6; have f7 := xs.free 7
  go_big_op
  have hd11 := xs.nod rfl rfl
  obtain ⟨w_11_0, eW, xs_0, ho_0⟩ : ∃ w', ((((w_10.setCell ⟨p_b3, 0, none⟩ (.bool n_r1)).setCell ⟨p_b3, 1, none⟩ (.slice o_r1 k_r1 c_r1)).setCell ⟨p_b3, 2, none⟩ (.bool n_r2)).setCell ⟨p_b3, 3, none⟩ (.slice o_r2 k_r2 c_r2)) = w' ∧ Bs w' p_b3 #[.bool n_r1, .slice o_r1 k_r1 c_r1, .bool n_r2, .slice o_r2 k_r2 c_r2, .bool false, .slice none 0 0, .bool false, .slice none 0 0] 55 ∧ Only p_b3 w_10 w' := xs.setN [(0, .bool n_r1), (1, .slice o_r1 k_r1 c_r1), (2, .bool n_r2), (3, .slice o_r2 k_r2 c_r2)]
  rw [eW]; clear eW
  obtain ⟨w_11, eW, xs', ho_4⟩ : ∃ w', ((((w_11_0.setCell ⟨p_b3, 4, none⟩ (.bool n_r3)).setCell ⟨p_b3, 5, none⟩ (.slice o_r3 k_r3 c_r3)).setCell ⟨p_b3, 6, none⟩ (.bool n_r4)).setCell ⟨p_b3, 7, none⟩ (.slice o_r4 k_r4 c_r4)) = w' ∧ Bs w' p_b3 #[.bool n_r1, .slice o_r1 k_r1 c_r1, .bool n_r2, .slice o_r2 k_r2 c_r2, .bool n_r3, .slice o_r3 k_r3 c_r3, .bool n_r4, .slice o_r4 k_r4 c_r4] 55 ∧ Only p_b3 w_11_0 w' := xs_0.setN [(4, .bool n_r3), (5, .slice o_r3 k_r3 c_r3), (6, .bool n_r4), (7, .slice o_r4 k_r4 c_r4)]
  rw [eW]; clear eW xs_0
  have ho11 := (ho_0.trans ho_4)
  clear ho_0 ho_4 d0 d1 d2 d3 d4 d5 d6 d7 f0 f1 f2 f3 f4 f5 f6 f7 xs
  replace hs := hs.u0 kb_b3 xs' ho11; clear xs'
  refine hK _ _ rfl (And.intro hs.g2 True.intro) ?_; clear hK K
  refine tl ?_
  refine .mv ?_ (e := (And.intro hs.g2 True.intro))
  apply wpTail_end
  refine hK2 _ _ ?_
  refine wp_seq_k ?_
  intro K3 hK3
  refine rg [0, 1] ?_
  refine sq ?_
  intro K hK
  have d0 : w_11.cell? ⟨p_b3, 0, none⟩ = some (.bool n_r1) := hs.g0.cell 0 rfl
  have d1 : w_11.cell? ⟨p_b3, 1, none⟩ = some (.slice o_r1 k_r1 c_r1) := hs.g0.cell 1 rfl
  have d2 : w_11.cell? ⟨p_b3, 2, none⟩ = some (.bool n_r2) := hs.g0.cell 2 rfl
  have d3 : w_11.cell? ⟨p_b3, 3, none⟩ = some (.slice o_r2 k_r2 c_r2) := hs.g0.cell 3 rfl
  have d4 : w_11.cell? ⟨p_b3, 4, none⟩ = some (.bool n_r3) := hs.g0.cell 4 rfl
  have d5 : w_11.cell? ⟨p_b3, 5, none⟩ = some (.slice o_r3 k_r3 c_r3) := hs.g0.cell 5 rfl
  have d6 : w_11.cell? ⟨p_b3, 6, none⟩ = some (.bool n_r4) := hs.g0.cell 6 rfl
  have d7 : w_11.cell? ⟨p_b3, 7, none⟩ = some (.slice o_r4 k_r4 c_r4) := hs.g0.cell 7 rfl
  go_big_op; refine hK _ _ rfl trivial ?_; clear hK K d0 d1 d2 d3 d4 d5 d6 d7
  refine sq ?_
  intro K hK
  have xs := hs.g1
  have d0 : w_11.cell? ⟨p_b2, 0, none⟩ = some (.bool false) := hs.g1.cell 0 rfl
  have d1 : w_11.cell? ⟨p_b2, 1, none⟩ = some (.slice none 0 0) := hs.g1.cell 1 rfl
  have d2 : w_11.cell? ⟨p_b2, 2, none⟩ = some (.bool false) := hs.g1.cell 2 rfl
  have d3 : w_11.cell? ⟨p_b2, 3, none⟩ = some (.slice none 0 0) := hs.g1.cell 3 rfl
  have d4 : w_11.cell? ⟨p_b2, 4, none⟩ = some (.bool false) := hs.g1.cell 4 rfl
  have d5 : w_11.cell? ⟨p_b2, 5, none⟩ = some (.slice none 0 0) := hs.g1.cell 5 rfl
  have d6 : w_11.cell? ⟨p_b2, 6, none⟩ = some (.bool false) := hs.g1.cell 6 rfl
  have d7 : w_11.cell? ⟨p_b2, 7, none⟩ = some (.slice none 0 0) := hs.g1.cell 7 rfl
  have f0 := xs.free 0; have f1 := xs.free 1; have f2 := xs.free 2; have f3 := xs.free 3; have f4 := xs.free 4; have f5 := xs.free 5; have f6 := xs.free 6; have f7 := xs.free 7
  go_big_op
  have hd12 := xs.nod rfl rfl
  obtain ⟨w_12_0, eW, xs_0, ho_0⟩ : ∃ w', ((((w_11.setCell ⟨p_b2, 0, none⟩ (.bool n_r1)).setCell ⟨p_b2, 1, none⟩ (.slice o_r1 k_r1 c_r1)).setCell ⟨p_b2, 2, none⟩ (.bool n_r2)).setCell ⟨p_b2, 3, none⟩ (.slice o_r2 k_r2 c_r2)) = w' ∧ Bs w' p_b2 #[.bool n_r1, .slice o_r1 k_r1 c_r1, .bool n_r2, .slice o_r2 k_r2 c_r2, .bool false, .slice none 0 0, .bool false, .slice none 0 0] 55 ∧ Only p_b2 w_11 w' := xs.setN [(0, .bool n_r1), (1, .slice o_r1 k_r1 c_r1), (2, .bool n_r2), (3, .slice o_r2 k_r2 c_r2)]
  rw [eW]; clear eW
  obtain ⟨w_12, eW, xs', ho_4⟩ : ∃ w', ((((w_12_0.setCell ⟨p_b2, 4, none⟩ (.bool n_r3)).setCell ⟨p_b2, 5, none⟩ (.slice o_r3 k_r3 c_r3)).setCell ⟨p_b2, 6, none⟩ (.bool n_r4)).setCell ⟨p_b2, 7, none⟩ (.slice o_r4 k_r4 c_r4)) = w' ∧ Bs w' p_b2 #[.bool n_r1, .slice o_r1 k_r1 c_r1, .bool n_r2, .slice o_r2 k_r2 c_r2, .bool n_r3, .slice o_r3 k_r3 c_r3, .bool n_r4, .slice o_r4 k_r4 c_r4] 55 ∧ Only p_b2 w_12_0 w' := xs_0.setN [(4, .bool n_r3), (5, .slice o_r3 k_r3 c_r3), (6, .bool n_r4), (7, .slice o_r4 k_r4 c_r4)]
  rw [eW]; clear eW xs_0
  have ho12 := (ho_0.trans ho_4)
  clear ho_0 ho_4 d0 d1 d2 d3 d4 d5 d6 d7 f0 f1 f2 f3 f4 f5 f6 f7 xs
  replace hs := hs.u1 kb_b2 xs' ho12; clear xs'
  clear g ov1 ov2 ov3 ov4 ha1 ha2
  refine hK _ _ rfl trivial ?_; clear hK K
  apply wpSq_end
  refine hK3 _ _ ?_
  refine wp_ret ?_
  try dsimp only [Exit.then, Exit.inBlock]
  have r0_0 : w_12.cell? ⟨p_b2, 0, none⟩ = some (.bool n_r1) := hs.g1.cell 0 rfl
  have r0_1 : w_12.cell? ⟨p_b2, 1, none⟩ = some (.slice o_r1 k_r1 c_r1) := hs.g1.cell 1 rfl
  have r0_2 : w_12.cell? ⟨p_b2, 2, none⟩ = some (.bool n_r2) := hs.g1.cell 2 rfl
  have r0_3 : w_12.cell? ⟨p_b2, 3, none⟩ = some (.slice o_r2 k_r2 c_r2) := hs.g1.cell 3 rfl
  have r0_4 : w_12.cell? ⟨p_b2, 4, none⟩ = some (.bool n_r3) := hs.g1.cell 4 rfl
  have r0_5 : w_12.cell? ⟨p_b2, 5, none⟩ = some (.slice o_r3 k_r3 c_r3) := hs.g1.cell 5 rfl
  have r0_6 : w_12.cell? ⟨p_b2, 6, none⟩ = some (.bool n_r4) := hs.g1.cell 6 rfl
  have r0_7 : w_12.cell? ⟨p_b2, 7, none⟩ = some (.slice o_r4 k_r4 c_r4) := hs.g1.cell 7 rfl
  refine bodyPost_ret (v := (.agg #[.bool n_r1, .slice o_r1 k_r1 c_r1, .bool n_r2, .slice o_r2 k_r2 c_r2, .bool n_r3, .slice o_r3 k_r3 c_r3, .bool n_r4, .slice o_r4 k_r4 c_r4])) (by simp [results, Tryz.results51, go_sem, r0_0, r0_1, r0_2, r0_3, r0_4, r0_5, r0_6, r0_7]) rfl ?_
  have k9_12 := ((kb n10).o hd11 ho11).o hd12 ho12
  replace r1 := r1.k k9_12
  replace r2 := r2.k k9_12
  replace r3 := r3.k k9_12
  replace r4 := r4.k k9_12
  exact ⟨_, rfl, .mk' r1 r2 r3 r4, hs.b⟩
end
section
variable {w w0 : World} {l la n k L ca : Nat} {oa : Option Addr} {bs : List En} {A : List (List (Int × Int))}
set_option maxHeartbeats 4000000 in
set_option maxRecDepth 20000 in
theorem rank_ok (ha : MN la w oa A) (hna : A.length = n) (h : gd A) (hk : wd A = k) (hB : MinB n k L (at2 A)) (hL : L ≤ 3300000) (hla : la ≤ 20000000) :
    Calls Tryz.prog 6 #[.slice oa n ca] w fun e w' => ∃ r : Nat, e = .returned (.tuple #[.int .i64 (r : Int), .int .i64 0]) ∧ Dt.Rk n k (at2 A) r ∧ Below w.heap.size w w' := by
  have HA := hide ha
  have H := hide h
  have HK := hide hk
  have HB := hide hB
  have hn64 : n ≤ 64 := by have := h.1; omega
  have hk64 : k ≤ 64 := by have := h.2.1; omega
  clear ha h hk hB
  go_enter Tryz.func6, Tryz.ntmps6
  have hs := St.nil w
  refine wp_seq_k ?_
  intro K1 hK1
  refine rg [0, 1] ?_
  refine sq ?_
  refine .mv ?_
  refine sq ?_
  refine .mv ?_
  apply wpSq_end
  refine hK1 _ _ ?_
  refine wp_seq_k ?_
  intro K2 hK2
  refine wp_seq_k ?_
  intro K3 hK3
  refine rg [0, 1, 2] ?_
  refine sq ?_
  refine .mv ?_
  refine sq ?_
  intro K hK
  have hb := hs.b
  go_big_op
  go_fit (good_yes (HA.out.bl stab_n hb) hna (by omega) H.out)
  rintro e w_1 ⟨rfl, hb_1⟩
  clear hb
  replace hs := hs.bl hb_1
  refine hK _ _ rfl trivial ?_
  clear hK K
  refine sq ?_
  refine .r0 ?_
  apply wpSq_end
  refine hK3 _ _ ?_
  refine cf ?_
  refine wp_skip ?_
  refine hK2 _ _ ?_
  refine wp_seq_k ?_
  intro K4 hK4
  refine rg [0, 1, 2, 3, 4, 5] ?_
  refine sq ?_
  refine .mv ?_
  refine sq ?_
  intro K hK
  go_big_op
  go_fit (laid_any hs HA.out hna H.out HK.out hla)
  have bb2 := hs.b
  rintro e w_2 ⟨p_t, o_t, c_t, rs_t, rfl, kb_bt, hl_t, hd, hs', kp2⟩
  clear hs; have hs := hs'; clear hs'
  have bc2 := hs.b
  clear bb2 bc2
  refine hK _ _ rfl trivial ?_
  clear hK K
  refine sq ?_
  intro K hK
  go_big_op
  go_fit (pivots_any (bs := []) hs kb_bt hl_t hd (Nat.le_refl _) (Nat.le_refl _) (by omega) (by omega) HB.out hL)
  have bb3 := hs.b
  rintro e w_3 ⟨o9, c9, xs, r, A2, F2, odd2, rs2, rfl, hF, hL9, hA2, hl2, hd2, hs', kp3⟩
  clear hs; have hs := hs'; clear hs'
  have bc3 := hs.b
  clear bb3 bc3
  have HRK := hide hF.rk
  clear hF
  refine hK _ _ rfl trivial ?_
  clear hK K
  refine sq ?_
  refine .r0 ?_
  refine sq ?_
  refine .mv ?_
  refine sq ?_
  refine .mv ?_
  apply wpSq_end
  refine hK4 _ _ ?_
  refine wp_ret ?_
  try dsimp only [Exit.then, Exit.inBlock]
  refine bodyPost_ret (v := (.tuple #[(.int .i64 ((r : Nat) : Int)), (.int .i64 0)])) (by simp [results, Tryz.results6, go_sem]) rfl ?_
  exact ⟨r, rfl, HRK.out, hs.b⟩
/-- The rank, as a number. -/
theorem rank_is {r : Nat} (ha : MN la w oa A) (hna : A.length = n) (h : gd A) (hk : wd A = k) (hB : MinB n k L (at2 A)) (hL : L ≤ 3300000) (hla : la ≤ 20000000) (hr : Dt.Rk n k (at2 A) r) :
    Calls Tryz.prog 6 #[.slice oa n ca] w fun e w' => e = .returned (.tuple #[.int .i64 (r : Int), .int .i64 0]) ∧ Below w.heap.size w w' :=
  Calls.mono (rank_ok (ca := ca) ha hna h hk hB hL hla) fun e w' ⟨s, h1, h2, h3⟩ => by
    obtain rfl := Dt.Rk.eq noz one_ne h2 hr
    exact ⟨h1, h3⟩
end
set_option linter.unusedSimpArgs false
theorem rv_one (x : Int) : (rv x 1).num = x ∧ ((rv x 1).den : Int) = 1 := by
  have e : rv x 1 = (x : Rat) := by unfold rv; grind
  rw [e]; exact ⟨Rat.num_intCast x, by simp⟩
/-- A quotient of Gaussian integers. -/
def qC (y p : Int × Int) : Rat × Rat :=
  ((rv y.1 1 * rv p.1 1 - rv y.2 1 * -rv p.2 1) / (rv p.1 1 * rv p.1 1 + rv p.2 1 * rv p.2 1), (rv y.1 1 * -rv p.2 1 + rv y.2 1 * rv p.1 1) / (rv p.1 1 * rv p.1 1 + rv p.2 1 * rv p.2 1))
theorem Pmd.wide {h K : Nat} {A0 A : Nat → Nat → Int × Int} (hp : Pmd h 0 A0 A) : Pmd h K A0 A := by
  obtain ⟨u, u', v, v', h1, h2, h3⟩ := hp
  refine ⟨u, u', v, v', h1, h2, fun i => ⟨fun hi => ?_, fun _ => (h3 i).2.1 (Nat.zero_le _), (h3 i).2.2.1, (h3 i).2.2.2⟩⟩
  have e1 := (h3 i).2.1 (Nat.zero_le _)
  have e2 := (h3 i).2.2.2
  rw [e1] at e2
  omega
theorem Rk.brdG {n k K r : Nat} {M B : Nat → Nat → Int × Int} (hk : k ≤ K) (h : Dt.Rk n k (Go.Proofs.YtcoodkdalblalaaGreatDoor.brdG n K M B) r) : Dt.Rk n k M r := by
  obtain ⟨f, g, h1, h2, C, p, h3, h4⟩ := h
  have e : ∀ i, i < n → ∀ j, j < k → Go.Proofs.YtcoodkdalblalaaGreatDoor.brdG n K M B i j = M i j := fun i hi j hj => by unfold Go.Proofs.YtcoodkdalblalaaGreatDoor.brdG; rw [if_pos hi, if_pos (by omega)]
  refine ⟨f, g, h1, ?_, C, p, h3, fun i hi j hj => ?_⟩
  · rw [Dt.det_congr fun i hi j hj => (e (f i) (h1 i hi).1 (g j) (h1 j hj).2).symm]; exact h2
  · rw [← e i hi j hj, h4 i hi j hj]
    exact Dt.sm_congr fun c hc => by rw [e _ (h1 c hc).1 j hj]
theorem Pmd.det_bd {n k K L2 : Nat} {M B A : Nat → Nat → Int × Int} (hk : n ≤ k) (hkK : k ≤ K) (hp : Pmd n k (brdG n K M B) A) (hB : MinB n k L2 M) : zl L2 (Dt.det n A) := by
  obtain ⟨u, u', v, v', h1, h2, h3⟩ := hp
  have e : Dt.det n A = Dt.det n fun i j => M (u i) (v j) := Dt.det_congr fun i hi j hj => by
    rw [h1]; unfold brdG; rw [if_pos ((h2 i).1 hi).1, if_pos (by have := ((h3 j).1 (by omega)).1; omega)]
  rw [e]
  exact hB n u v (fun r hr => ⟨((h2 r).1 hr).1, ((h3 r).1 (by omega)).1⟩) fun r q hrq hq he => by
    have h4 := (h2 r).2.2.2
    have h5 := (h2 q).2.2.2
    rw [he] at h4
    omega
theorem zl_negP {L : Nat} {p : Int × Int} (h : zl L p) : zl L (-p) :=
  ⟨Nat.le_trans (Nat.le_of_eq (by show (dig (-p.1).natAbs).length = _; rw [Int.natAbs_neg])) h.1, Nat.le_trans (Nat.le_of_eq (by show (dig (-p.2).natAbs).length = _; rw [Int.natAbs_neg])) h.2⟩
/-- What Solve answers, and how long its numbers are. -/
def SolvP (n k K L2 L : Nat) (M : Nat → Nat → Int × Int) (v : Nat → Int × Int) (e : Ending) (w' : World) : Prop :=
  (∃ r, r < n ∧ Dt.Rk n k M r ∧ e = .returned (.tuple #[.slice none 0 0, .int .i64 3])) ∨
  (Dt.Rk n k M n ∧ (∀ p x, ¬ Sol n K M v p x) ∧ e = .returned (.tuple #[.slice none 0 0, .int .i64 10])) ∨
  (Dt.Rk n k M n ∧ ∃ p y, Sol n K M v p y ∧ (zl L2 p ∧ ∀ i, i < n → zl L (y i)) ∧ ∃ o c, e = .returned (.tuple #[.slice o n c, .int .i64 0]) ∧ LQ w' o ((List.range n).map fun i => qC (y i) p))
section
variable {w : World} {la lv n k L L2 ca cv : Nat} {oa ov : Option Addr} {A : List (List (Int × Int))} {V : List (Int × Int)}
set_option maxHeartbeats 8000000 in
set_option maxRecDepth 20000 in
theorem solve_pos (ha : MN la w oa A) (hna : A.length = n) (h : gd A) (hk : wd A = k) (hv : SN lv w ov V) (hnv : V.length = k) (hn0 : 0 < n)
    (hB : MinB (n + 1) (k + n) L (brdG n k (at2 A) fun _ => at1 V)) (hL : L ≤ 3300000) (hB2 : MinB n k L2 (at2 A)) (hL2 : L2 ≤ 1100000) (hla : la ≤ 10000000) (hlv : lv ≤ 10000000) :
    Calls Tryz.prog 16 #[.slice oa n ca, .slice ov k cv] w fun e w' => SolvP n k k L2 L (at2 A) (at1 V) e w' ∧ Below w.heap.size w w' := by
  have HA := hide ha
  have HV := hide hv
  have H := hide h
  have HK := hide hk
  have HB := hide hB
  have HB2 := hide hB2
  have hn64 : n ≤ 64 := by have := h.1; omega
  have hk64 : k ≤ 64 := by have := h.2.1; omega
  have HNV := hide (show ∀ i, i < 1 → (rw_ [V] i).length = k from fun i hi => by obtain rfl : i = 0 := Nat.lt_one_iff.1 hi; exact hnv)
  have EB := hide (show mkM (n + 1) (k + n) (brdG n k (at2 A) (at2 [V])) = mkM (n + 1) (k + n) (brdG n k (at2 A) fun _ => at1 V) from mkM_eq rfl rfl fun i hi j hj => by
    unfold brdG
    by_cases c : i < n
    · rw [if_pos c, if_pos c]
    · obtain rfl : i = n := by omega
      rw [if_neg c, if_neg c, Nat.sub_self]; rfl)
  clear ha hv h hk hB hB2
  go_enter Tryz.func16, Tryz.ntmps16
  have hs := St.nil w
  refine wp_seq_k ?_
  intro K1 hK1
  refine rg [0, 1] ?_
  refine sq ?_
  refine .mv ?_
  refine sq ?_
  refine .mv ?_
  apply wpSq_end
  refine hK1 _ _ ?_
  refine wp_seq_k ?_
  intro K2 hK2
  refine rg [0, 1, 2, 3, 4, 5, 6, 7, 8] ?_
  refine sq ?_
  refine .mv ?_
  refine sq ?_
  intro K hK
  have hb := hs.b
  go_big_op
  go_fit (mSize_ok (HA.out.bl stab_n hb) hna H.out HK.out)
  rintro e w_1 ⟨rfl, hb_1⟩
  clear hb
  replace hs := hs.bl hb_1
  refine hK _ _ rfl trivial ?_
  clear hK K
  refine sq ?_
  refine .mv ?_
  refine sq ?_
  refine .r0 ?_
  refine sq ?_
  refine .r0 ?_
  refine sq ?_
  refine .r0 ?_
  refine sq ?_
  refine .mv ?_
  refine sq ?_
  refine .mv ?_
  refine sq ?_
  refine .mv ?_
  apply wpSq_end
  refine hK2 _ _ ?_
  refine wp_seq_k ?_
  intro K3 hK3
  refine wp_seq_k ?_
  intro K4 hK4
  refine rg [0, 1, 2, 3, 4, 5, 6, 7, 8, 9, 10, 11] ?_
  refine sq ?_
  refine .mv ?_
  refine sq ?_
  refine .r0 ?_
  refine sq ?_
  refine .mv ?_
  refine sq ?_
  refine .mv ?_
  refine sq ?_
  refine .r0 ?_
  refine sq ?_
  refine .mv ?_
  refine sq ?_
  refine .mv ?_
  refine sq ?_
  refine .r0 ?_
  refine sq ?_
  refine .mv ?_
  refine sq ?_
  refine .r0 ?_
  refine sq ?_
  refine .r0 ?_
  refine sq ?_
  refine .r0 ?_
  apply wpSq_end
  refine hK4 _ _ ?_
  refine cf ?_
  refine wp_skip ?_
  refine hK3 _ _ ?_
  refine wp_seq_k ?_
  intro K5 hK5
  refine rg [0, 1, 2, 3, 4] ?_
  refine sq ?_
  refine .mv ?_
  refine sq ?_
  refine .mv ?_
  refine sq ?_
  refine .al hs ?_; clear hs; intro p_b1 w_2 hs n2 kb_b1
  refine sq ?_
  intro K hK
  go_big_op
  go_fit (bordered_any (la := la) (lb := lv) (bs := [bx p_b1 #[.slice ov k cv] 28]) (B := [V]) hs HA.out hna H.out HK.out (fun w' hw _ ↦ .inr ⟨p_b1, 0, _, _, _, rfl, hw.g0, fun i hi ↦ ⟨ov, cv, by simp at hi; subst hi; simp [hnv], by simp at hi; subst hi; exact HV.out.bl stab_n hw.b⟩⟩) rfl HNV.out (fun _ ↦ rfl) (by omega) (by omega) (by omega) (by omega))
  have bb3 := hs.b
  rintro e w_3 ⟨p_t, o_t, c_t, rs_t, rfl, kb_bt, hl_t, hd, hs', kp3⟩
  clear hs; have hs := hs'; clear hs'
  have bc3 := hs.b
  clear bb3 bc3
  rw [EB.out] at hd
  refine hK _ _ rfl trivial ?_
  clear hK K
  refine sq ?_
  refine .mv ?_
  apply wpSq_end
  refine hK5 _ _ ?_
  refine wp_seq_k ?_
  intro K6 hK6
  refine rg [0, 1, 2] ?_
  refine sq ?_
  refine .mv ?_
  refine sq ?_
  intro K hK
  go_big_op
  go_fit (pivots_any (bs := [bx p_b1 #[.slice ov k cv] 28]) hs kb_bt hl_t hd (by omega) (by omega) (by omega) (by omega) HB.out hL)
  have bb4 := hs.b
  rintro e w_4 ⟨o9, c9, xs, r, A2, F2, odd2, rs2, rfl, hF, hL9, hA2, hl2, hd2, hs', kp4⟩
  clear hs; have hs := hs'; clear hs'
  have bc4 := hs.b
  clear bb4 bc4
  refine hK _ _ rfl trivial ?_
  clear hK K
  refine sq ?_
  refine .mv ?_
  apply wpSq_end
  refine hK6 _ _ ?_
  refine wp_seq_k ?_
  intro K7 hK7
  refine wp_seq_k ?_
  intro K8 hK8
  refine rg [0, 1, 2, 3] ?_
  refine sq ?_
  refine .mv ?_
  refine sq ?_
  refine .r0 ?_
  refine sq ?_
  refine .mv ?_
  refine sq ?_
  refine .r0 ?_
  apply wpSq_end
  refine hK8 _ _ ?_
  have HF := hide hF
  have HA2 := hide hA2
  have hrn : r ≤ n := hF.1.1
  clear hF hA2
  by_cases hr : r < n
  · have HRK := hide (Rk.brdG (K := k) (by omega) HF.out.rk)
    have HRN := hide hr
    refine ct ?_
    refine wp_seq_k ?_
    intro K9 hK9
    refine rg [0, 1] ?_
    refine sq ?_
    refine .mv ?_
    refine sq ?_
    refine .mv ?_
    apply wpSq_end
    refine hK9 _ _ ?_
    refine wp_ret ?_
    try dsimp only [Exit.then, Exit.inBlock]
    refine bodyPost_ret (v := (.tuple #[(.slice none 0 0), (.int .i64 3)])) (by simp [results, Tryz.results16, go_sem]) rfl ?_
    exact ⟨.inl ⟨r, HRN.out, HRK.out, rfl⟩, hs.b⟩
  · have hnk : r ≤ k := HF.out.1.2.1
    have HX := hide hr
    obtain rfl : n = r := by omega
    have HRK := hide (Rk.brdG (K := k) (Nat.le_refl _) HF.out.rk)
    have HPM := hide (show Pmd n k (brdG n k (at2 A) fun _ => at1 V) A2 from HF.out.1.2.2.2.1)
    have HDT := hide (show Dt.det n A2 ≠ 0 from HF.out.1.2.2.1)
    have HFN := hide (show ∀ q, n ≤ q → q < k + n → F2 n q = Dt.D n A2 n q from fun q h1 h2 => HA2.out n (by omega) q h2 (Nat.le_refl _) h1)
    have HBF := hide (show ∀ q, n ≤ q → q < k + n → zl L (F2 n q) from fun q h1 h2 => by
      rw [HFN.out q h1 h2]
      exact HPM.out.bd HB.out (by omega) (by omega) _ _ (by omega) _ h2)
    have HLY := hide (show zl L2 (Dt.det n A2) ∧ ∀ i, i < n → zl L (yS n k A2 i) from ⟨HPM.out.det_bd hnk (Nat.le_refl _) HB2.out, fun i hi => by
      have h1 := HBF.out (k + i) (by omega) (by omega)
      rw [HFN.out (k + i) (by omega) (by omega)] at h1
      exact zl_negP h1⟩)
    obtain ⟨r1, gr, cr, ys, r2, e1, h1, hrv, hx, hs⟩ := St.row (bs := [ls w.heap.size 26 4 (.slice o9 n c9) n xs, bx p_t #[.slice o_t (n + 1) c_t, .int .i64 (n : Int), .int .i64 (k : Int), .bool odd2] 77, bx p_b1 #[.slice ov k cv] 28]) (hs.perm (List.Perm.swap _ _ _)) hd2 (p := n) (K := k + n) (by rw [len_mkM]; omega) (by rw [mkM_row (by omega)]; simp) (by omega)
    rw [mkM_row (by omega)] at hx
    have LT9 : Lst _ w.heap.size 28 1 (.slice o_t (n + 1) c_t) (n + 1) _ := hs.1.2.1.1
    obtain ⟨gT, curT, rfl, xT, hcT⟩ := LT9.box (by omega)
    have eT := hcT _ _ hrv
    have LR : Lst _ w.heap.size 26 4 (.slice (some ⟨gr, 0, none⟩) (k + n) cr) (k + n) ys := hs.1.1.1
    have hcr : k + n ≤ cr := LR.capn
    have LL : Lst _ w.heap.size 26 4 (.slice o9 n c9) n xs := hs.1.2.2.1.1
    obtain ⟨gL, curL, rfl, xL, hcL⟩ := LL.box hn0
    clear LT9 hcT LR hrv e1 h1 LL xL hcL hr
    refine cf ?_
    refine wp_skip ?_
    refine hK7 _ _ ?_
    refine wp_seq_k ?_
    intro K9 hK9
    refine rg [0, 1, 2, 3, 4, 5, 6, 7] ?_
    refine sq ?_
    refine .mv ?_
    refine sq ?_
    refine .r0 ?_
    refine sq ?_
    refine .r0 ?_
    refine sq ?_
    refine .r4 hs.g3.f4 ?_
    refine sq ?_
    refine .mv ?_
    refine sq ?_
    refine .r0 ?_
    refine sq ?_
    refine .r1 (xT.cell _ eT) ?_
    refine sq ?_
    refine .mv ?_
    apply wpSq_end
    refine hK9 _ _ ?_
    refine wp_seq_k ?_
    intro K10 hK10
    refine wp_seq_k ?_
    intro K11 hK11
    refine rg [0, 1, 2, 3, 4, 5, 6] ?_
    refine sq ?_
    refine .mv ?_
    refine sq ?_
    refine .mv ?_
    refine sq ?_
    refine .mv ?_
    refine sq ?_
    refine .r0 ?_
    refine sq ?_
    refine .r0 ?_
    refine sq ?_
    refine .r0 ?_
    refine sq ?_
    refine .mv ?_
    apply wpSq_end
    refine hK11 _ _ ?_
    refine wp_block ?_
    generalize hoT : (@ite (Option Addr) (cr = n) _ (some ⟨gr, 0, none⟩) _) = oT
    obtain rfl : oT = some ⟨gr, n * 4, none⟩ := by rw [← hoT, if_neg (by omega)]; try simp
    clear hoT
    have hd5 := hs.2.1
    go_loopg [58] (k - n) (fun kz s58 wr => ∃ i : Nat, s58 = .int .i64 (i : Int) ∧ i + kz = k - n ∧ Hid (∀ q, n ≤ q → q < n + i → F2 n q = 0) ∧ GD wr ys ((List.range (k + n)).map (F2 n)) ∧ GD wr xs (pvs A2 n) ∧ St w (ls w.heap.size 26 4 (.slice (some ⟨gr, 0, none⟩) (k + n) cr) (k + n) ys :: ls w.heap.size 26 4 (.slice (some ⟨gL, 0, none⟩) n c9) n xs :: []) wr)
    case atStart => exact ⟨0, rfl, by omega, hide (fun q h1 h2 => absurd h2 (by omega)), hx, hL9, hs.sub (.cons_cons _ (.cons _ (.cons_cons _ (List.nil_sublist _))))⟩
    case round =>
    clear hd hL9 hd2 hx xT hs
    obtain ⟨i, rfl, hik, HZ, hx, hL9, hs⟩ := hrel
    by_cases hi : i < k - n
    · have HI := hide hi
      have LR : Lst wr w.heap.size 26 4 (.slice (some ⟨gr, 0, none⟩) (k + n) cr) (k + n) ys := hs.1.1.1
      obtain ⟨gr', curR, eS, xR, hcR⟩ := LR.box (by omega)
      simp only [Option.some.injEq, Addr.mk.injEq, and_true] at eS
      obtain rfl : gr = gr' := eS
      obtain ⟨a1, a2, a3, a4, a5, a6, a7, a8, ee1, ee2, ee3, ee4, x1, x2⟩ := hx.els (n + i) (by simp; omega)
      rw [show ((List.range (k + n)).map (F2 n))[n + i]'(by simp; omega) = F2 n (n + i) by simp] at x1 x2
      replace ee1 := hcR _ _ ee1
      replace ee2 := hcR _ _ ee2
      replace ee3 := hcR _ _ ee3
      replace ee4 := hcR _ _ ee4
      rw [Nat.add_mul] at ee1 ee2 ee3 ee4
      have LX := HBF.out (n + i) (by omega) (by omega)
      replace x1 := x1.zn LX.1
      replace x2 := x2.zn LX.2
      obtain ⟨X, hX⟩ : ∃ X, F2 n (n + i) = X := ⟨_, rfl⟩
      have HXE := hide hX
      rw [hX] at x1 x2
      clear LR hcR LX hX
      by_cases hz : X.1 = 0 ∧ X.2 = 0
      · have EZ := hide (decide_eq_true hz)
        have HZE := hide hz
        clear hz
        refine wp_seq_k ?_
        intro K12 hK12
        refine rg [0] ?_
        refine sq ?_
        refine .r0 ?_
        apply wpSq_end
        refine hK12 _ _ ?_
        refine wp_seq_k ?_
        intro K13 hK13
        refine ct ?_
        refine wp_skip ?_
        refine hK13 _ _ ?_
        refine wp_seq_k ?_
        intro K14 hK14
        refine wp_block ?_
        refine wp_seq_k ?_
        intro K15 hK15
        refine rg [0, 1, 2, 3] ?_
        refine sq ?_
        refine .r0 ?_
        refine sq ?_
        refine .r4 ⟨xR.cell _ ee1, xR.cell _ ee2, xR.cell _ ee3, xR.cell _ ee4⟩ ?_
        refine sq ?_
        refine .al hs ?_; clear hs; intro p_b2 w_6 hs n6 kb_b2
        replace xR := xR.bl n6
        refine sq ?_
        refine .s4 hs.g0 (fun _ => hs.u0 kb_b2) ?_; clear hs; intro w_7 hs hd7 ho7
        replace xR := xR.frame ho7 (hs.ne 1 0)
        apply wpSq_end
        refine hK15 _ _ ?_
        refine wp_seq_k ?_
        intro K16 hK16
        refine rg [0, 1, 2] ?_
        refine sq ?_
        refine .r4 hs.g0.f4 ?_
        refine sq ?_
        intro K hK
        have k0_2 := (kb n6).o hd7 ho7
        replace x1 := x1.k k0_2
        replace x2 := x2.k k0_2
        go_big_op
        go_fit (isZero_any (.mk' x1 x2) (by omega) (by omega))
        rintro e w_8 ⟨rfl, hb_8⟩
        replace xR := xR.bl hb_8; replace hs := hs.bl hb_8
        rw [EZ.out]
        refine hK _ _ rfl trivial ?_
        clear hK K
        refine sq ?_
        refine .r0 ?_
        apply wpSq_end
        refine hK16 _ _ ?_
        refine cf ?_
        refine wp_skip ?_
        refine hK14 _ _ ?_
        refine rg [0, 1] ?_
        refine sq ?_
        refine .r0 ?_
        refine sq ?_
        refine .mv ?_
        apply wpSq_end
        have k0_3 := k0_2.b hb_8
        replace hx := hx.k k0_3
        replace hL9 := hL9.k k0_3
        refine ‹∀ (a' : Act) (w' : World), Handed _ _ a' w' → _› _ _ ?_
        go_roundg (gk - 1)
        case rel => exact ⟨i + 1, by rfl, by omega, hide (fun q h1 h2 => by
          by_cases c : q < n + i
          · exact HZ.out q h1 c
          · obtain rfl : q = n + i := by omega
            rw [HXE.out]; exact Prod.ext HZE.out.1 HZE.out.2), hx, hL9, hs.sub (.cons _ (List.Sublist.refl _))⟩
        case measure => omega
      · have EZ := hide (decide_eq_false hz)
        have HNS := hide (show ∀ p x, ¬ Sol n k (at2 A) (at1 V) p x from fun p x hsol => hz (by
          have := solve_no HPM.out hsol (q := n + i) (by omega) (by have := HI.out; omega)
          rw [← HFN.out (n + i) (by omega) (by have := HI.out; omega), HXE.out] at this
          rw [this]; exact ⟨rfl, rfl⟩))
        clear hz
        refine wp_seq_k ?_
        intro K12 hK12
        refine rg [0] ?_
        refine sq ?_
        refine .r0 ?_
        apply wpSq_end
        refine hK12 _ _ ?_
        refine wp_seq_k ?_
        intro K13 hK13
        refine ct ?_
        refine wp_skip ?_
        refine hK13 _ _ ?_
        refine wp_seq_k ?_
        intro K14 hK14
        refine wp_block ?_
        refine wp_seq_k ?_
        intro K15 hK15
        refine rg [0, 1, 2, 3] ?_
        refine sq ?_
        refine .r0 ?_
        refine sq ?_
        refine .r4 ⟨xR.cell _ ee1, xR.cell _ ee2, xR.cell _ ee3, xR.cell _ ee4⟩ ?_
        refine sq ?_
        refine .al hs ?_; clear hs; intro p_b2 w_6 hs n6 kb_b2
        replace xR := xR.bl n6
        refine sq ?_
        refine .s4 hs.g0 (fun _ => hs.u0 kb_b2) ?_; clear hs; intro w_7 hs hd7 ho7
        replace xR := xR.frame ho7 (hs.ne 1 0)
        apply wpSq_end
        refine hK15 _ _ ?_
        refine wp_seq_k ?_
        intro K16 hK16
        refine rg [0, 1, 2] ?_
        refine sq ?_
        refine .r4 hs.g0.f4 ?_
        refine sq ?_
        intro K hK
        have k0_2 := (kb n6).o hd7 ho7
        replace x1 := x1.k k0_2
        replace x2 := x2.k k0_2
        go_big_op
        go_fit (isZero_any (.mk' x1 x2) (by omega) (by omega))
        rintro e w_8 ⟨rfl, hb_8⟩
        replace xR := xR.bl hb_8; replace hs := hs.bl hb_8
        rw [EZ.out]
        refine hK _ _ rfl trivial ?_
        clear hK K
        refine sq ?_
        refine .r0 ?_
        apply wpSq_end
        refine hK16 _ _ ?_
        refine ct ?_
        refine wp_seq_k ?_
        intro K17 hK17
        refine rg [0, 1] ?_
        refine sq ?_
        refine .mv ?_
        refine sq ?_
        refine .mv ?_
        apply wpSq_end
        refine hK17 _ _ ?_
        refine wp_ret ?_
        try dsimp only [Exit.then, Exit.inBlock]
        refine bodyPost_ret (v := (.tuple #[(.slice none 0 0), (.int .i64 10)])) (by simp [results, Tryz.results16, go_sem]) rfl ?_
        exact ⟨.inr (.inl ⟨HRK.out, HNS.out, rfl⟩), hs.b⟩
    · have HI := hide (show i = k - n by omega)
      have HI2 := hide hi
      have HY := hide (show Sol n k (at2 A) (at1 V) (Dt.det n A2) (yS n k A2) from solve_yes HPM.out HDT.out fun q h1 h2 => by
        rw [← HFN.out q h1 (by omega)]; exact HZ.out q h1 (by omega))
      refine wp_seq_k ?_
      intro K12 hK12
      refine rg [0] ?_
      refine sq ?_
      refine .r0 ?_
      apply wpSq_end
      refine hK12 _ _ ?_
      refine wp_seq_k ?_
      intro K13 hK13
      refine cf ?_
      refine wp_exit ?_
      refine hK10 _ _ ?_
      refine wp_seq_k ?_
      intro K14 hK14
      refine rg [0, 1, 2] ?_
      refine sq ?_
      refine .mv ?_
      refine sq ?_
      refine .mk (n := n) hs ?_ (by first | rfl | omega) (by omega); clear hs; intro g_S xs_S w_6 hs e_S n6 kb_S
      refine sq ?_
      refine .mv ?_
      apply wpSq_end
      refine hK14 _ _ ?_
      refine wp_seq_k ?_
      intro K15 hK15
      refine wp_seq_k ?_
      intro K16 hK16
      refine rg [0, 1, 2, 3, 4, 5] ?_
      refine sq ?_
      refine .mv ?_
      refine sq ?_
      refine .mv ?_
      refine sq ?_
      refine .r0 ?_
      refine sq ?_
      refine .r0 ?_
      refine sq ?_
      refine .r0 ?_
      refine sq ?_
      refine .mv ?_
      apply wpSq_end
      refine hK16 _ _ ?_
      refine wp_block ?_
      generalize hoT : (@ite (Option Addr) (cr = k) _ (some ⟨gr, 0, none⟩) _) = oT
      obtain rfl : oT = some ⟨gr, k * 4, none⟩ := by rw [← hoT, if_neg (by omega)]; try simp
      clear hoT
      have k0_1 := kb n6
      replace hx := hx.k k0_1
      replace hL9 := hL9.k k0_1
      have hd7 := hs.2.1
      go_loopg [73] n (fun kz s73 wr => ∃ (i : Nat) (ps zs : List Value), s73 = .int .i64 (i : Int) ∧ i + kz = n ∧ ps.length = i * 8 ∧ CD wr ps ((List.range i).map fun i => qC (yS n k A2 i) (Dt.det n A2)) ∧ GD wr ys ((List.range (k + n)).map (F2 n)) ∧ GD wr xs (pvs A2 n) ∧ St w (ls w.heap.size 55 8 (.slice (some ⟨g_S, 0, none⟩) n n) n (ps ++ zs) :: ls w.heap.size 26 4 (.slice (some ⟨gr, 0, none⟩) (k + n) cr) (k + n) ys :: ls w.heap.size 26 4 (.slice (some ⟨gL, 0, none⟩) n c9) n xs :: []) wr)
      case atStart => exact ⟨0, [], xs_S, rfl, by omega, rfl, CD.nil _, hx, hL9, hs⟩
      case round =>
      clear hi HI2
      clear hx hL9 hs
      obtain ⟨i, ps, zs, rfl, hin, hpl, hz, hx, hL9, hs⟩ := hrel
      have hlen := hs.1.1.1.1.1
      rw [List.length_append, hpl] at hlen
      by_cases hi : i < n
      · have HI := hide hi
        obtain ⟨z0, z1, z2, z3, z4, z5, z6, z7, ws, rfl⟩ := eight_of (zs := zs) (by omega)
        have LR : Lst wr w.heap.size 26 4 (.slice (some ⟨gr, 0, none⟩) (k + n) cr) (k + n) ys := hs.1.2.1.1
        obtain ⟨gr', curR, eS, xR, hcR⟩ := LR.box (by omega)
        simp only [Option.some.injEq, Addr.mk.injEq, and_true] at eS
        obtain rfl : gr = gr' := eS
        obtain ⟨a1, a2, a3, a4, a5, a6, a7, a8, ee1, ee2, ee3, ee4, x1, x2⟩ := hx.els (k + i) (by simp; omega)
        rw [show ((List.range (k + n)).map (F2 n))[k + i]'(by simp; omega) = F2 n (k + i) by simp] at x1 x2
        replace ee1 := hcR _ _ ee1
        replace ee2 := hcR _ _ ee2
        replace ee3 := hcR _ _ ee3
        replace ee4 := hcR _ _ ee4
        rw [Nat.add_mul] at ee1 ee2 ee3 ee4
        have LX := HBF.out (k + i) (by omega) (by omega)
        replace x1 := x1.zn LX.1
        replace x2 := x2.zn LX.2
        have HYE := hide (show yS n k A2 i = (-(F2 n (k + i)).1, -(F2 n (k + i)).2) by rw [HFN.out (k + i) (by omega) (by omega)]; rfl)
        obtain ⟨X, hX⟩ : ∃ X, F2 n (k + i) = X := ⟨_, rfl⟩
        rw [hX] at x1 x2 LX HYE
        have LNG : zl L (-X.1, -X.2) := ⟨Nat.le_trans (Nat.le_of_eq (by rw [Int.natAbs_neg])) LX.1, Nat.le_trans (Nat.le_of_eq (by rw [Int.natAbs_neg])) LX.2⟩
        have LNG1 := hide LNG.1
        have LNG2 := hide LNG.2
        obtain ⟨n1, hn1⟩ : ∃ n1, n = n1 + 1 := ⟨n - 1, by omega⟩
        have LL : Lst wr w.heap.size 26 4 (.slice (some ⟨gL, 0, none⟩) n c9) n xs := hs.1.2.2.1.1
        obtain ⟨gL', curL, eL, xL, hcL⟩ := LL.box hn0
        simp only [Option.some.injEq, Addr.mk.injEq, and_true] at eL
        obtain rfl : gL = gL' := eL
        obtain ⟨l1, l2, l3, l4, l5, l6, l7, l8, j1, j2, j3, j4, v1, v2⟩ := hL9.els n1 (by rw [pvs_len]; omega)
        rw [show (pvs A2 n)[n1]'(by rw [pvs_len]; omega) = Dt.det n A2 by simp [pvs, hn1]] at v1 v2
        replace j1 := hcL _ _ j1
        replace j2 := hcL _ _ j2
        replace j3 := hcL _ _ j3
        replace j4 := hcL _ _ j4
        have LV := HPM.out.det_bd hnk (Nat.le_refl _) HB2.out
        replace v1 := v1.zn LV.1
        replace v2 := v2.zn LV.2
        have HPE := HDT.out
        obtain ⟨P, hP⟩ : ∃ P, Dt.det n A2 = P := ⟨_, rfl⟩
        rw [hP] at v1 v2 HPE LV hz
        have HP0 := hide (show ¬ (P.1 = 0 ∧ P.2 = 0) from fun c => HPE (Prod.ext c.1 c.2))
        have LV1 := hide LV.1
        have LV2 := hide LV.2
        have EK1 : (n : Int) - 1 = (n1 : Int) := by omega
        have HN1 := hide hn1
        have HP := hide hP
        have Z1 := hide (zlen_small8 (z := 1) (by decide))
        clear LR hcR LX hX LL hcL LNG LV HPE hn1 hP
        refine wp_seq_k ?_
        intro K17 hK17
        refine rg [0] ?_
        refine sq ?_
        refine .r0 ?_
        apply wpSq_end
        refine hK17 _ _ ?_
        refine wp_seq_k ?_
        intro K18 hK18
        refine ct ?_
        refine wp_skip ?_
        refine hK18 _ _ ?_
        refine wp_seq_k ?_
        intro K19 hK19
        refine wp_block ?_
        refine wp_seq_k ?_
        intro K20 hK20
        refine rg [0, 1, 2, 3, 4, 5] ?_
        refine sq ?_
        refine .mv ?_
        refine sq ?_
        refine .r0 ?_
        refine sq ?_
        refine .r4 ⟨xR.cell _ ee1, xR.cell _ ee2, xR.cell _ ee3, xR.cell _ ee4⟩ ?_
        refine sq ?_
        refine .al hs ?_; clear hs; intro p_b2 w_8 hs n8 kb_b2
        replace xR := xR.bl n8; replace xL := xL.bl n8
        refine sq ?_
        refine .mv ?_
        refine sq ?_
        refine .s4 hs.g0 (fun _ => hs.u0 kb_b2) ?_; clear hs; intro w_9 hs hd9 ho9
        replace xR := xR.frame ho9 (hs.ne 2 0); replace xL := xL.frame ho9 (hs.ne 3 0)
        apply wpSq_end
        refine hK20 _ _ ?_
        refine wp_region_f4 [(0, false), (1, false), (2, false), (5, false), (6, false), (7, false), (8, false), (9, false), (3, true), (4, true), (10, true), (11, true), (12, false), (13, false), (14, false), (15, false)] [16] [] (fun _ => default) [99, 99, 0, 99, 99, 99, 99, 99, 99, 1, 99, 99, 99, 99, 99, 99, 99] [] (.c hs.g0 (.c xL .n)) fn fun w_10 n10 => ?_
        replace xR := xR.bl n10; replace xL := xL.bl n10; replace hs := hs.bl n10
        refine fmv ?_
        refine fmv ?_
        refine f4 ?_
        refine fmv ?_
        refine fmv ?_
        refine f0 ?_
        refine f0 ?_
        apply wpFl_ld rfl rfl; (case h1 => intro w' hC K hK; have c0 := Bs.cell hC ((n1 * 4)) j1; have c1 := Bs.cell hC ((n1 * 4) + 1) j2; have c2 := Bs.cell hC ((n1 * 4) + 2) j3; have c3 := Bs.cell hC ((n1 * 4) + 3) j4; go_big_op; exact hK); iterate 4 kernel_rfl
        refine fl fun w_11 n11 => ?_
        replace xR := xR.bl n11; replace xL := xL.bl n11; replace hs := hs.bl n11
        intro K hK
        have k0_4 := (((kb n8).o hd9 ho9).b n10).b n11
        replace x1 := x1.k k0_4
        replace x2 := x2.k k0_4
        go_big_op
        go_fit (gNeg_any (.mk' x1 x2) (by omega) (by omega))
        rintro e w_12 ⟨_, rfl, ⟨n_ga, o_ga, k_ga, c_ga, n_gb, o_gb, k_gb, c_gb, rfl, g1, g2⟩, hb_12⟩
        replace xR := xR.bl hb_12; replace xL := xL.bl hb_12; replace hs := hs.bl hb_12
        refine hK _ _ rfl ⟨hb_12, (And.intro hs.g0 (And.intro xL trivial))⟩ ?_
        clear hK K
        refine fl fun w_13 n13 => ?_
        replace xR := xR.bl n13; replace xL := xL.bl n13; replace hs := hs.bl n13
        intro K hK
        have k5_6 := kb n13
        replace g1 := g1.k k5_6
        replace g2 := g2.k k5_6
        go_big_op
        go_fit (gfOf_any (.mk' (g1.zn LNG1.out) (g2.zn LNG2.out)) (by omega) (by omega))
        rintro e w_14 ⟨_, rfl, ⟨n_o1, o_o1, k_o1, c_o1, n_o2, o_o2, k_o2, c_o2, n_o3, o_o3, k_o3, c_o3, n_o4, o_o4, k_o4, c_o4, rfl, o1, o2, o3, o4⟩, hb_14⟩
        replace xR := xR.bl hb_14; replace xL := xL.bl hb_14; replace hs := hs.bl hb_14
        rw [(rv_one _).1] at o1 o3
        rw [(rv_one _).2] at o2 o4
        refine hK _ _ rfl ⟨hb_14, (And.intro hs.g0 (And.intro xL trivial))⟩ ?_
        clear hK K
        refine fl fun w_15 n15 => ?_
        replace xR := xR.bl n15; replace xL := xL.bl n15; replace hs := hs.bl n15
        intro K hK
        have k0_8 := (((k0_4.b hb_12).b n13).b hb_14).b n15
        replace v1 := v1.k k0_8
        replace v2 := v2.k k0_8
        go_big_op
        go_fit (gfOf_any (.mk' v1 v2) (by omega) (by omega))
        rintro e w_16 ⟨_, rfl, ⟨n_q1, o_q1, k_q1, c_q1, n_q2, o_q2, k_q2, c_q2, n_q3, o_q3, k_q3, c_q3, n_q4, o_q4, k_q4, c_q4, rfl, q1, q2, q3, q4⟩, hb_16⟩
        replace xR := xR.bl hb_16; replace xL := xL.bl hb_16; replace hs := hs.bl hb_16
        rw [(rv_one _).1] at q1 q3
        rw [(rv_one _).2] at q2 q4
        refine hK _ _ rfl ⟨hb_16, (And.intro hs.g0 (And.intro xL trivial))⟩ ?_
        clear hK K
        refine fl fun w_17 n17 => ?_
        replace xR := xR.bl n17; replace xL := xL.bl n17; replace hs := hs.bl n17
        intro K hK
        have k7_10 := ((kb n15).b hb_16).b n17
        replace o1 := o1.k k7_10
        replace o2 := o2.k k7_10
        replace o3 := o3.k k7_10
        replace o4 := o4.k k7_10
        have k9_10 := kb n17
        replace q1 := q1.k k9_10
        replace q2 := q2.k k9_10
        replace q3 := q3.k k9_10
        replace q4 := q4.k k9_10
        go_big_op
        go_fit (gfQuo_ok (.mk' (o1.zn LNG1.out) (o2.zn Z1.out) (o3.zn LNG2.out) (o4.zn Z1.out)) (.mk' (q1.zn LV1.out) (q2.zn Z1.out) (q3.zn LV2.out) (q4.zn Z1.out)) (by omega) (by omega) (by omega) (by omega) (by omega) (by omega) (by omega) (by omega) (by decide) (by decide) (by decide) (by decide) HP0.out)
        rintro e w_18 ⟨_, rfl, ⟨n_s1, o_s1, k_s1, c_s1, n_s2, o_s2, k_s2, c_s2, n_s3, o_s3, k_s3, c_s3, n_s4, o_s4, k_s4, c_s4, rfl, s1, s2, s3, s4⟩, hb_18⟩
        replace xR := xR.bl hb_18; replace xL := xL.bl hb_18; replace hs := hs.bl hb_18
        refine hK _ _ rfl ⟨hb_18, (And.intro hs.g0 (And.intro xL trivial))⟩ ?_
        clear hK K
        refine fmv ?_
        refine f0 ?_
        refine f0 ?_
        refine f0 ?_
        refine e0 hs ?_; clear hs; intro w_19 hs n19
        clear g1 g2 o1 o2 o3 o4 q1 q2 q3 q4
        replace xR := xR.bl n19; replace xL := xL.bl n19
        refine tl ?_
        refine .i8 1 hs (j := i) (by exact HI.out) ?_ (e := fun _ hB hO => (And.intro (hs.g0.frame hO (hs.ne 0 1)) (And.intro (xL.frame hO (hs.ne 3 1)) True.intro))); clear hs; intro w_20 hs kp20 hd20 ho20 hw20; simp only [List.set_cons_succ, List.set_cons_zero] at hs
        clear xR
        clear xL
        apply wpTail_end
        refine hK19 _ _ ?_
        refine rg [0, 1] ?_
        refine sq ?_
        refine .r0 ?_
        refine sq ?_
        refine .mv ?_
        apply wpSq_end
        have k0_13 := ((((k0_8.b hb_16).b n17).b hb_18).b n19).t kp20
        replace hz := hz.k k0_13
        replace hx := hx.k k0_13
        replace hL9 := hL9.k k0_13
        have k11_13 := (kb n19).t kp20
        replace s1 := s1.k k11_13
        replace s2 := s2.k k11_13
        replace s3 := s3.k k11_13
        replace s4 := s4.k k11_13
        refine ‹∀ (a' : Act) (w' : World), Handed _ _ a' w' → _› _ _ ?_
        rw [setL_app8 hpl] at hs
        go_roundg (gk - 1)
        case rel => exact ⟨i + 1, _, ws, by rfl, by omega, by simp; omega, by rw [List.range_succ, List.map_append, HP.out]; exact hz.snoc (by show CC _ _ (qC (yS n k A2 i) P).1.num (qC (yS n k A2 i) P).1.den (qC (yS n k A2 i) P).2.num (qC (yS n k A2 i) P).2.den; rw [HYE.out]; exact .mk' s1 s2 s3 s4), hx, hL9, hs.sub (.cons _ (List.Sublist.refl _))⟩
        case measure => omega
      · have HI := hide hi
        obtain rfl : n = i := by omega
        obtain rfl : zs = [] := List.eq_nil_of_length_eq_zero (by omega)
        rw [List.append_nil] at hs
        refine wp_seq_k ?_
        intro K17 hK17
        refine rg [0] ?_
        refine sq ?_
        refine .r0 ?_
        apply wpSq_end
        refine hK17 _ _ ?_
        refine wp_seq_k ?_
        intro K18 hK18
        refine cf ?_
        refine wp_exit ?_
        refine hK15 _ _ ?_
        refine wp_seq_k ?_
        intro K19 hK19
        refine rg [0, 1, 2] ?_
        refine sq ?_
        refine .mv ?_
        refine sq ?_
        refine .mv ?_
        refine sq ?_
        refine .mv ?_
        apply wpSq_end
        refine hK19 _ _ ?_
        refine wp_ret ?_
        try dsimp only [Exit.then, Exit.inBlock]
        refine bodyPost_ret (v := (.tuple #[(.slice (some ⟨g_S, 0, none⟩) n n), (.int .i64 0)])) (by simp [results, Tryz.results16, go_sem]) rfl ?_
        exact ⟨.inr (.inr ⟨HRK.out, _, _, HY.out, HLY.out, _, _, rfl, LQ.of hs.1.1.1 hz (by simp)⟩), hs.b⟩
end
section
variable {w : World} {la lv n k m L L2 ca cv : Nat} {oa ov : Option Addr} {A : List (List (Int × Int))} {V : List (Int × Int)}
set_option maxHeartbeats 8000000 in
set_option maxRecDepth 20000 in
theorem solve_zero (ha : MN la w oa A) (hna : A.length = n) (h : gd A) (hk : wd A = k) (hv : SN lv w ov V) (hnv : V.length = m) (hn0 : n = 0) (hk0 : k = 0) (hm : m ≤ 2000000)
    (hB : MinB (n + 1) (m + n) L (brdG n m (at2 A) fun _ => at1 V)) (hL : L ≤ 3300000) (hB2 : MinB n k L2 (at2 A)) (hla : la ≤ 10000000) (hlv : lv ≤ 10000000) :
    Calls Tryz.prog 16 #[.slice oa n ca, .slice ov m cv] w fun e w' => SolvP n k m L2 L (at2 A) (at1 V) e w' ∧ Below w.heap.size w w' := by
  have HA := hide ha
  have HV := hide hv
  have H := hide h
  have HK := hide hk
  have HB := hide hB
  have HN0 := hide hn0
  have HK0 := hide hk0
  have HZ1 := hide (show zl L2 (1, 0) from hB2 0 id id (fun r hr => absurd hr (Nat.not_lt_zero _)) (fun r q h1 h2 => absurd h2 (Nat.not_lt_zero _)))
  have HNV := hide (show ∀ i, i < 1 → (rw_ [V] i).length = m from fun i hi => by obtain rfl : i = 0 := Nat.lt_one_iff.1 hi; exact hnv)
  have EB := hide (show mkM (n + 1) (m + n) (brdG n m (at2 A) (at2 [V])) = mkM (n + 1) (m + n) (brdG n m (at2 A) fun _ => at1 V) from mkM_eq rfl rfl fun i hi j hj => by
    unfold brdG
    by_cases c : i < n
    · rw [if_pos c, if_pos c]
    · obtain rfl : i = n := by omega
      rw [if_neg c, if_neg c, Nat.sub_self]; rfl)
  have t0 : ¬ 0 < n := by omega
  have hnm : n ≤ m := by omega
  clear ha hv h hk hB hn0 hk0 hB2
  go_enter Tryz.func16, Tryz.ntmps16
  have hs := St.nil w
  refine wp_seq_k ?_
  intro K1 hK1
  refine rg [0, 1] ?_
  refine sq ?_
  refine .mv ?_
  refine sq ?_
  refine .mv ?_
  apply wpSq_end
  refine hK1 _ _ ?_
  refine wp_seq_k ?_
  intro K2 hK2
  refine rg [0, 1, 2, 3, 4, 5, 6, 7, 8] ?_
  refine sq ?_
  refine .mv ?_
  refine sq ?_
  intro K hK
  have hb := hs.b
  go_big_op
  go_fit (mSize_ok (HA.out.bl stab_n hb) hna H.out HK.out)
  rintro e w_1 ⟨rfl, hb_1⟩
  clear hb
  replace hs := hs.bl hb_1
  refine hK _ _ rfl trivial ?_
  clear hK K
  refine sq ?_
  refine .mv ?_
  refine sq ?_
  refine .r0 ?_
  refine sq ?_
  refine .r0 ?_
  refine sq ?_
  refine .r0 ?_
  refine sq ?_
  refine .mv ?_
  refine sq ?_
  refine .mv ?_
  refine sq ?_
  refine .mv ?_
  apply wpSq_end
  refine hK2 _ _ ?_
  refine wp_seq_k ?_
  intro K3 hK3
  refine wp_seq_k ?_
  intro K4 hK4
  refine rg [0, 1, 2, 3, 4, 5, 6, 7, 8, 9, 10, 11] ?_
  refine sq ?_
  refine .mv ?_
  refine sq ?_
  refine .r0 ?_
  refine sq ?_
  refine .mv ?_
  refine sq ?_
  refine .mv ?_
  refine sq ?_
  refine .r0 ?_
  refine sq ?_
  refine .mv ?_
  refine sk ?_
  refine sk ?_
  refine sk ?_
  refine sk ?_
  refine sq ?_
  refine .r0 ?_
  refine sq ?_
  refine .r0 ?_
  apply wpSq_end
  refine hK4 _ _ ?_
  refine cf ?_
  refine wp_skip ?_
  refine hK3 _ _ ?_
  refine wp_seq_k ?_
  intro K5 hK5
  refine rg [0, 1, 2, 3, 4] ?_
  refine sq ?_
  refine .mv ?_
  refine sq ?_
  refine .mv ?_
  refine sq ?_
  refine .al hs ?_; clear hs; intro p_b1 w_2 hs n2 kb_b1
  refine sq ?_
  intro K hK
  go_big_op
  go_fit (bordered_any (la := la) (lb := lv) (bs := [bx p_b1 #[.slice ov m cv] 28]) (B := [V]) hs HA.out hna H.out HK.out (fun w' hw _ ↦ .inr ⟨p_b1, 0, _, _, _, rfl, hw.g0, fun i hi ↦ ⟨ov, cv, by simp at hi; subst hi; simp [hnv], by simp at hi; subst hi; exact HV.out.bl stab_n hw.b⟩⟩) rfl HNV.out (fun c ↦ absurd HN0.out (by omega)) hm (by omega) (by omega) (by omega))
  have bb3 := hs.b
  rintro e w_3 ⟨p_t, o_t, c_t, rs_t, rfl, kb_bt, hl_t, hd, hs', kp3⟩
  clear hs; have hs := hs'; clear hs'
  have bc3 := hs.b
  clear bb3 bc3
  rw [EB.out] at hd
  refine hK _ _ rfl trivial ?_
  clear hK K
  refine sq ?_
  refine .mv ?_
  apply wpSq_end
  refine hK5 _ _ ?_
  refine wp_seq_k ?_
  intro K6 hK6
  refine rg [0, 1, 2] ?_
  refine sq ?_
  refine .mv ?_
  refine sq ?_
  intro K hK
  go_big_op
  go_fit (pivots_any (bs := [bx p_b1 #[.slice ov m cv] 28]) hs kb_bt hl_t hd (by omega) (by have := HK0.out; omega) (by have := HN0.out; omega) (by have := HN0.out; omega) HB.out hL)
  have bb4 := hs.b
  rintro e w_4 ⟨o9, c9, xs, r, A2, F2, odd2, rs2, rfl, hF, hL9, hA2, hl2, hd2, hs', kp4⟩
  clear hs; have hs := hs'; clear hs'
  have bc4 := hs.b
  clear bb4 bc4
  refine hK _ _ rfl trivial ?_
  clear hK K
  refine sq ?_
  refine .mv ?_
  apply wpSq_end
  refine hK6 _ _ ?_
  refine wp_seq_k ?_
  intro K7 hK7
  refine wp_seq_k ?_
  intro K8 hK8
  refine rg [0, 1, 2, 3] ?_
  refine sq ?_
  refine .mv ?_
  refine sq ?_
  refine .r0 ?_
  refine sq ?_
  refine .mv ?_
  refine sq ?_
  refine .r0 ?_
  apply wpSq_end
  refine hK8 _ _ ?_
  have HF := hide hF
  have HA2 := hide hA2
  have hrn : r ≤ n := hF.1.1
  clear hF hA2
  have hr : ¬ r < n := by have := HN0.out; omega
  have HX := hide hr
  obtain rfl : n = r := by have := HN0.out; omega
  have HRK := hide (Rk.brdG (K := m) (by have := HK0.out; omega) HF.out.rk)
  have HPM := hide (show Pmd n m (brdG n m (at2 A) fun _ => at1 V) A2 from by
    have := HF.out.1.2.2.2.1
    obtain rfl : k = 0 := HK0.out
    exact this.wide)
  have HDT := hide (show Dt.det n A2 ≠ 0 from HF.out.1.2.2.1)
  have HFN := hide (show ∀ q, n ≤ q → q < m + n → F2 n q = Dt.D n A2 n q from fun q h1 h2 => HA2.out n (by omega) q h2 (Nat.le_refl _) h1)
  have HBF := hide (show ∀ q, n ≤ q → q < m + n → zl L (F2 n q) from fun q h1 h2 => by
    rw [HFN.out q h1 h2]
    exact HPM.out.bd HB.out (by omega) (by omega) _ _ (by omega) _ h2)
  have hs := hs.perm (List.Perm.swap _ _ _)
  have ENT : ∃ oi ci, (rs2.map (·.v))[n]? = some (.slice oi (m + n) ci) ∧ m + n ≤ ci := by
    obtain ⟨oi, ci, hvi⟩ := St.rowv (bs := [ls w.heap.size 26 4 (.slice o9 n c9) n xs, bx p_t #[.slice o_t (n + 1) c_t, .int .i64 (n : Int), .int .i64 (k : Int), .bool odd2] 77, bx p_b1 #[.slice ov m cv] 28]) hs hd2 (p := n) (K := m + n) (by rw [len_mkM]; omega) (by rw [mkM_row (by omega)]; simp)
    refine ⟨oi, ci, hvi, ?_⟩
    rcases Nat.eq_zero_or_pos (m + n) with c | c
    · omega
    · obtain ⟨r1, gr, cr, ys, r2, e1, h1, hrv, hx, hs⟩ := St.row (bs := [ls w.heap.size 26 4 (.slice o9 n c9) n xs, bx p_t #[.slice o_t (n + 1) c_t, .int .i64 (n : Int), .int .i64 (k : Int), .bool odd2] 77, bx p_b1 #[.slice ov m cv] 28]) hs hd2 (p := n) (K := m + n) (by rw [len_mkM]; omega) (by rw [mkM_row (by omega)]; simp) (by omega)
      have LR : Lst _ w.heap.size 26 4 (.slice (some ⟨gr, 0, none⟩) (m + n) cr) (m + n) ys := hs.1.1.1
      have := LR.capn
      rw [hrv] at hvi
      simp only [Option.some.injEq, Value.slice.injEq] at hvi
      omega
  obtain ⟨oi, ci, hvi, hci⟩ := ENT
  have hci2 : m ≤ ci := by omega
  have LT9 : Lst _ w.heap.size 28 1 (.slice o_t (n + 1) c_t) (n + 1) _ := hs.1.1.1
  obtain ⟨gT, curT, rfl, xT, hcT⟩ := LT9.box (by omega)
  have eT := hcT _ _ hvi
  have HVI := hide hvi
  clear LT9 hcT hvi hr
  refine cf ?_
  refine wp_skip ?_
  refine hK7 _ _ ?_
  refine wp_seq_k ?_
  intro K9 hK9
  refine rg [0, 1, 2, 3, 4, 5, 6, 7] ?_
  refine sq ?_
  refine .mv ?_
  refine sq ?_
  refine .r0 ?_
  refine sq ?_
  refine .r0 ?_
  refine sq ?_
  refine .r4 hs.g2.f4 ?_
  refine sq ?_
  refine .mv ?_
  refine sq ?_
  refine .r0 ?_
  refine sq ?_
  refine .r1 (xT.cell _ eT) ?_
  refine sq ?_
  refine .mv ?_
  apply wpSq_end
  refine hK9 _ _ ?_
  refine wp_seq_k ?_
  intro K10 hK10
  refine wp_seq_k ?_
  intro K11 hK11
  refine rg [0, 1, 2, 3, 4, 5, 6] ?_
  refine sq ?_
  refine .mv ?_
  refine sq ?_
  refine .mv ?_
  refine sq ?_
  refine .mv ?_
  refine sq ?_
  refine .r0 ?_
  refine sq ?_
  refine .r0 ?_
  refine sq ?_
  refine .r0 ?_
  refine sq ?_
  refine .mv ?_
  apply wpSq_end
  refine hK11 _ _ ?_
  refine wp_block ?_
  generalize hoT : (@ite (Option Addr) (ci = n) _ oi _) = oT
  have HOT := hide hoT
  clear hoT
  have hd5 := hs.2.1
  go_loopg [58] (m - n) (fun kz s58 wr => ∃ i : Nat, s58 = .int .i64 (i : Int) ∧ i + kz = m - n ∧ Hid (∀ q, n ≤ q → q < n + i → F2 n q = 0) ∧ RD wr rs2 (mkM (n + 1) (m + n) F2) ∧ St w (ls w.heap.size 28 1 (.slice (some ⟨gT, 0, none⟩) (n + 1) c_t) (n + 1) (rs2.map (·.v)) :: ([] ++ rs2.map (Rw.e w.heap.size))) wr)
  case atStart => exact ⟨0, rfl, by omega, hide (fun q h1 h2 => absurd h2 (by omega)), hd2, hs.sub (.cons_cons _ (.cons _ (.cons _ (.cons _ (List.Sublist.refl _)))))⟩
  case round =>
  clear hd hL9 hd2 xT hs
  obtain ⟨i, rfl, hik, HZ, hd2, hs⟩ := hrel
  by_cases hi : i < m - n
  · have HI := hide hi
    obtain ⟨r1, gr, cr, ys, r2, e1, h1, hrv, hx, hs0⟩ := St.row (bs := []) hs hd2 (p := n) (K := m + n) (by rw [len_mkM]; omega) (by rw [mkM_row (by omega)]; simp) (by omega)
    rw [mkM_row (by omega)] at hx
    have hvi := HVI.out
    rw [hrv] at hvi
    simp only [Option.some.injEq, Value.slice.injEq, true_and] at hvi
    obtain ⟨rfl, rfl⟩ := hvi
    have HE1 := hide e1
    have LR : Lst wr w.heap.size 26 4 (.slice (some ⟨gr, 0, none⟩) (m + n) cr) (m + n) ys := hs0.1.1.1
    obtain ⟨gr', curR, eS, xR, hcR⟩ := LR.box (by omega)
    simp only [Option.some.injEq, Addr.mk.injEq, and_true] at eS
    obtain rfl : gr = gr' := eS
    obtain rfl : oT = some ⟨gr, n * 4, none⟩ := by rw [← HOT.out, if_neg (by omega)]; simp [Addr.add]
    obtain ⟨a1, a2, a3, a4, a5, a6, a7, a8, ee1, ee2, ee3, ee4, x1, x2⟩ := hx.els (n + i) (by simp; omega)
    rw [show ((List.range (m + n)).map (F2 n))[n + i]'(by simp; omega) = F2 n (n + i) by simp] at x1 x2
    replace ee1 := hcR _ _ ee1
    replace ee2 := hcR _ _ ee2
    replace ee3 := hcR _ _ ee3
    replace ee4 := hcR _ _ ee4
    rw [Nat.add_mul] at ee1 ee2 ee3 ee4
    have LX := HBF.out (n + i) (by omega) (by omega)
    replace x1 := x1.zn LX.1
    replace x2 := x2.zn LX.2
    obtain ⟨X, hX⟩ : ∃ X, F2 n (n + i) = X := ⟨_, rfl⟩
    have HXE := hide hX
    have kR := xR.lt
    rw [hX] at x1 x2
    clear LR hcR LX hX e1 h1 hrv hx
    by_cases hz : X.1 = 0 ∧ X.2 = 0
    · have EZ := hide (decide_eq_true hz)
      have HZE := hide hz
      have hs := hs0
      clear hz hs0
      refine wp_seq_k ?_
      intro K12 hK12
      refine rg [0] ?_
      refine sq ?_
      refine .r0 ?_
      apply wpSq_end
      refine hK12 _ _ ?_
      refine wp_seq_k ?_
      intro K13 hK13
      refine ct ?_
      refine wp_skip ?_
      refine hK13 _ _ ?_
      refine wp_seq_k ?_
      intro K14 hK14
      refine wp_block ?_
      refine wp_seq_k ?_
      intro K15 hK15
      refine rg [0, 1, 2, 3] ?_
      refine sq ?_
      refine .r0 ?_
      refine sq ?_
      refine .r4 ⟨xR.cell _ ee1, xR.cell _ ee2, xR.cell _ ee3, xR.cell _ ee4⟩ ?_
      refine sq ?_
      refine .al hs ?_; clear hs; intro p_b2 w_6 hs n6 kb_b2
      replace xR := xR.bl n6
      refine sq ?_
      refine .s4 hs.g0 (fun _ => hs.u0 kb_b2) ?_; clear hs; intro w_7 hs hd7 ho7
      replace xR := xR.frame ho7 (hs.ne 1 0)
      apply wpSq_end
      refine hK15 _ _ ?_
      refine wp_seq_k ?_
      intro K16 hK16
      refine rg [0, 1, 2] ?_
      refine sq ?_
      refine .r4 hs.g0.f4 ?_
      refine sq ?_
      intro K hK
      have k0_2 := (kb n6).o hd7 ho7
      replace x1 := x1.k k0_2
      replace x2 := x2.k k0_2
      go_big_op
      go_fit (isZero_any (.mk' x1 x2) (by omega) (by omega))
      rintro e w_8 ⟨rfl, hb_8⟩
      replace xR := xR.bl hb_8; replace hs := hs.bl hb_8
      rw [EZ.out]
      refine hK _ _ rfl trivial ?_
      clear hK K
      refine sq ?_
      refine .r0 ?_
      apply wpSq_end
      refine hK16 _ _ ?_
      refine cf ?_
      refine wp_skip ?_
      refine hK14 _ _ ?_
      refine rg [0, 1] ?_
      refine sq ?_
      refine .r0 ?_
      refine sq ?_
      refine .mv ?_
      apply wpSq_end
      have k0_3 := k0_2.b hb_8
      replace hd2 := hd2.k k0_3
      refine ‹∀ (a' : Act) (w' : World), Handed _ _ a' w' → _› _ _ ?_
      go_roundg (gk - 1)
      case rel => exact ⟨i + 1, by rfl, by omega, hide (fun q h1 h2 => by
        by_cases c : q < n + i
        · exact HZ.out q h1 c
        · obtain rfl : q = n + i := by omega
          rw [HXE.out]; exact Prod.ext HZE.out.1 HZE.out.2), hd2, by have h9 := hs.sub (.cons _ (List.Sublist.refl _)); rw [HE1.out] at h9 ⊢; exact St.unrow h9⟩
      case measure => omega
    · have EZ := hide (decide_eq_false hz)
      have HNS := hide (show ∀ p x, ¬ Sol n m (at2 A) (at1 V) p x from fun p x hsol => hz (by
        have := solve_no HPM.out hsol (q := n + i) (by omega) (by have := HI.out; omega)
        rw [← HFN.out (n + i) (by omega) (by have := HI.out; omega), HXE.out] at this
        rw [this]; exact ⟨rfl, rfl⟩))
      have hs := hs0
      clear hz hs0
      refine wp_seq_k ?_
      intro K12 hK12
      refine rg [0] ?_
      refine sq ?_
      refine .r0 ?_
      apply wpSq_end
      refine hK12 _ _ ?_
      refine wp_seq_k ?_
      intro K13 hK13
      refine ct ?_
      refine wp_skip ?_
      refine hK13 _ _ ?_
      refine wp_seq_k ?_
      intro K14 hK14
      refine wp_block ?_
      refine wp_seq_k ?_
      intro K15 hK15
      refine rg [0, 1, 2, 3] ?_
      refine sq ?_
      refine .r0 ?_
      refine sq ?_
      refine .r4 ⟨xR.cell _ ee1, xR.cell _ ee2, xR.cell _ ee3, xR.cell _ ee4⟩ ?_
      refine sq ?_
      refine .al hs ?_; clear hs; intro p_b2 w_6 hs n6 kb_b2
      replace xR := xR.bl n6
      refine sq ?_
      refine .s4 hs.g0 (fun _ => hs.u0 kb_b2) ?_; clear hs; intro w_7 hs hd7 ho7
      replace xR := xR.frame ho7 (hs.ne 1 0)
      apply wpSq_end
      refine hK15 _ _ ?_
      refine wp_seq_k ?_
      intro K16 hK16
      refine rg [0, 1, 2] ?_
      refine sq ?_
      refine .r4 hs.g0.f4 ?_
      refine sq ?_
      intro K hK
      have k0_2 := (kb n6).o hd7 ho7
      replace x1 := x1.k k0_2
      replace x2 := x2.k k0_2
      go_big_op
      go_fit (isZero_any (.mk' x1 x2) (by omega) (by omega))
      rintro e w_8 ⟨rfl, hb_8⟩
      replace xR := xR.bl hb_8; replace hs := hs.bl hb_8
      rw [EZ.out]
      refine hK _ _ rfl trivial ?_
      clear hK K
      refine sq ?_
      refine .r0 ?_
      apply wpSq_end
      refine hK16 _ _ ?_
      refine ct ?_
      refine wp_seq_k ?_
      intro K17 hK17
      refine rg [0, 1] ?_
      refine sq ?_
      refine .mv ?_
      refine sq ?_
      refine .mv ?_
      apply wpSq_end
      refine hK17 _ _ ?_
      refine wp_ret ?_
      try dsimp only [Exit.then, Exit.inBlock]
      refine bodyPost_ret (v := (.tuple #[(.slice none 0 0), (.int .i64 10)])) (by simp [results, Tryz.results16, go_sem]) rfl ?_
      exact ⟨.inr (.inl ⟨HRK.out, HNS.out, rfl⟩), hs.b⟩
  · have HI := hide (show i = m - n by omega)
    have HI2 := hide hi
    have HY := hide (show Sol n m (at2 A) (at1 V) (Dt.det n A2) (yS n m A2) from solve_yes HPM.out HDT.out fun q h1 h2 => by
      rw [← HFN.out q h1 (by omega)]; exact HZ.out q h1 (by omega))
    refine wp_seq_k ?_
    intro K12 hK12
    refine rg [0] ?_
    refine sq ?_
    refine .r0 ?_
    apply wpSq_end
    refine hK12 _ _ ?_
    refine wp_seq_k ?_
    intro K13 hK13
    refine cf ?_
    refine wp_exit ?_
    refine hK10 _ _ ?_
    refine wp_seq_k ?_
    intro K14 hK14
    refine rg [0, 1, 2] ?_
    refine sq ?_
    refine .mv ?_
    refine sq ?_
    refine .mk (n := n) hs ?_ (by first | rfl | omega) (by omega); clear hs; intro g_S xs_S w_6 hs e_S n6 kb_S
    refine sq ?_
    refine .mv ?_
    apply wpSq_end
    refine hK14 _ _ ?_
    refine wp_seq_k ?_
    intro K15 hK15
    refine wp_seq_k ?_
    intro K16 hK16
    refine rg [0, 1, 2, 3, 4, 5] ?_
    refine sq ?_
    refine .mv ?_
    refine sq ?_
    refine .mv ?_
    refine sq ?_
    refine .r0 ?_
    refine sq ?_
    refine .r0 ?_
    refine sq ?_
    refine .r0 ?_
    refine sq ?_
    refine .mv ?_
    apply wpSq_end
    refine hK16 _ _ ?_
    refine wp_block ?_
    generalize hoT2 : (@ite (Option Addr) (ci = m) _ oi _) = oT2
    clear hoT2
    have hd7 := hs.2.1
    go_loopg [73] n (fun kz s73 wr => ∃ (i : Nat) (zs : List Value), s73 = .int .i64 (i : Int) ∧ i + kz = n ∧ St w (ls w.heap.size 55 8 (.slice (some ⟨g_S, 0, none⟩) n n) n zs :: []) wr)
    case atStart => exact ⟨0, xs_S, rfl, by omega, hs.sub (.cons_cons _ (List.nil_sublist _))⟩
    case round =>
    clear hi HI2
    clear hd2 hs
    obtain ⟨i, zs, rfl, hin, hs⟩ := hrel
    have hi : ¬ i < n := by have := HN0.out; omega
    have HI := hide hi
    refine wp_seq_k ?_
    intro K17 hK17
    refine rg [0] ?_
    refine sq ?_
    refine .r0 ?_
    apply wpSq_end
    refine hK17 _ _ ?_
    refine wp_seq_k ?_
    intro K18 hK18
    refine cf ?_
    refine wp_exit ?_
    refine hK15 _ _ ?_
    refine wp_seq_k ?_
    intro K19 hK19
    refine rg [0, 1, 2] ?_
    refine sq ?_
    refine .mv ?_
    refine sq ?_
    refine .mv ?_
    refine sq ?_
    refine .mv ?_
    apply wpSq_end
    refine hK19 _ _ ?_
    refine wp_ret ?_
    try dsimp only [Exit.then, Exit.inBlock]
    refine bodyPost_ret (v := (.tuple #[(.slice (some ⟨g_S, 0, none⟩) n n), (.int .i64 0)])) (by simp [results, Tryz.results16, go_sem]) rfl ?_
    exact ⟨.inr (.inr ⟨HRK.out, _, _, HY.out, ⟨by rw [HN0.out]; exact HZ1.out, fun i hi => absurd (HN0.out ▸ hi) (Nat.not_lt_zero _)⟩, _, _, rfl, .inl (by rw [HN0.out]; rfl)⟩), hs.b⟩
end
end Go.Proofs.YtcoodkdalblalaaGreatDoor
