/- The reference's root; the numbers of a norm, as a list. -/
import Derived.Test.YtbiiglcfdphmaaaJ1ToJ4
import Derived.Test.YtbiiglcfdphmaaaWkToG2
import Derived.Maps.AppendAt
import Derived.Scope
import Derived.Test.YtbiiglcfdphmaaaG3ToR10

namespace Go.Proofs.Ytbiiglcfdphmaaa
open Go Go.RowKit Dig
set_option linter.unusedVariables false

/-- The floor of the square root. -/
def rt : Nat → Nat
  | 0 => 0
  | n + 1 => if (rt n + 1) * (rt n + 1) ≤ n + 1 then rt n + 1 else rt n
theorem rt_spec (n : Nat) : rt n * rt n ≤ n ∧ n < (rt n + 1) * (rt n + 1) := by
  induction n with
  | zero => decide
  | succ n ih =>
    unfold rt
    split
    · rename_i h
      refine ⟨h, ?_⟩
      have : (rt n + 1 + 1) * (rt n + 1 + 1) = (rt n + 1) * (rt n + 1) + 2 * (rt n + 1) + 1 := by grind
      omega
    · rename_i h
      exact ⟨by omega, by omega⟩
theorem sq_lt {a b : Nat} (h : a * a < b * b) : a < b := Nat.lt_of_not_le fun hc => by have := Nat.mul_le_mul hc hc; omega
theorem sq_le2 {a b : Nat} (h : a * a ≤ b * b) : a ≤ b := Nat.le_of_not_lt fun hc => by
  have := Nat.mul_le_mul (show b + 1 ≤ a from hc) (show b + 1 ≤ a from hc)
  have : (b + 1) * (b + 1) = b * b + 2 * b + 1 := by grind
  omega
theorem rt_eq {n r : Nat} (h1 : r * r ≤ n) (h2 : n < (r + 1) * (r + 1)) : rt n = r := by
  have h := rt_spec n
  have a1 := sq_lt (Nat.lt_of_le_of_lt h.1 h2)
  have a2 := sq_lt (Nat.lt_of_le_of_lt h1 h.2)
  omega
theorem rt_sq (r : Nat) : rt (r * r) = r := rt_eq (Nat.le_refl _) (by have : (r + 1) * (r + 1) = r * r + 2 * r + 1 := (by grind); omega)
set_option maxHeartbeats 1000000 in
set_option maxRecDepth 20000 in
theorem root_any (n : Nat) (w : World) (hn : n < 17179869184) :
    Calls Try.prog 55 #[.int .i64 (n : Int)] w fun e w' => e = .returned (.int .i64 ((rt n : Nat) : Int)) ∧ w = w' := by
  go_enter Try.func55, Try.ntmps55
  go_wp2
  go_loopw [3, 4] (fun x y wr => ∃ l h : Nat, x = .int .i64 (l : Int) ∧ y = .int .i64 (h : Int) ∧ l < h ∧ h ≤ 131072 ∧ Hid (l * l ≤ n ∧ n < h * h) ∧ w = wr) (fun x y _ => (intOf y).toNat - (intOf x).toNat)
  case atStart => exact ⟨0, 131072, rfl, rfl, by omega, by omega, hide ⟨by omega, by omega⟩, rfl⟩
  case round =>
    obtain ⟨l, h, rfl, rfl, hlh, hh, HI, rfl⟩ := hrel
    by_cases h1 : 1 < (h : Int) - (l : Int)
    · obtain ⟨m, hm⟩ : ∃ m, (l + h) / 2 = m := ⟨_, rfl⟩
      have hq : ((l : Int) + (h : Int)).tdiv 2 = (m : Int) := by rw [Int.tdiv_eq_ediv_of_nonneg (by omega)]; omega
      have hm2 : l < m ∧ m < h := by omega
      obtain ⟨hm3, hm4⟩ := hm2
      have hp : (m : Int) * (m : Int) = ((m * m : Nat) : Int) := by simp
      have hpb : m * m ≤ 131072 * 131072 := Nat.mul_le_mul (by omega) (by omega)
      by_cases hc : m * m ≤ n
      · have HI' := hide (And.intro hc HI.out.2)
        obtain ⟨q, hqq⟩ : ∃ q, m * m = q := ⟨_, rfl⟩
        rw [hqq] at hp hpb hc
        clear hm HI hqq
        have h5 : ((q : Int) ≤ (n : Int)) = True := by simp; omega
        clear hc
        go_wp2
        go_roundw
        case rel => exact ⟨m, h, rfl, rfl, hm4, hh, HI', trivial⟩
        case measure => simp [intOf]; omega
      · have HI' := hide (And.intro HI.out.1 (Nat.lt_of_not_le hc))
        obtain ⟨q, hqq⟩ : ∃ q, m * m = q := ⟨_, rfl⟩
        rw [hqq] at hp hpb hc
        clear hm HI hqq
        have h5 : ((q : Int) ≤ (n : Int)) = False := by simp; omega
        clear hc
        go_wp2
        go_roundw
        case rel => exact ⟨l, m, rfl, rfl, hm3, by omega, HI', trivial⟩
        case measure => simp [intOf]; omega
    · have hr : rt n = l := by
        obtain rfl : h = l + 1 := by omega
        exact rt_eq HI.out.1 HI.out.2
      go_wp2
      go_ret
      exact ⟨by subst hr; rfl, rfl⟩
/-- The number of norm n with the real part a, if there is one with Re not below Im. -/
def sqAt (n a : Nat) : Option (Int × Int) := if n ≤ 2 * a * a ∧ a * a ≤ n ∧ a * a + rt (n - a * a) * rt (n - a * a) = n then some ((a : Int), (rt (n - a * a) : Int)) else none
def sqs (n : Nat) : Nat → List (Int × Int)
  | 0 => []
  | k + 1 => sqs n k ++ (sqAt n k).toList
theorem sqs_none {n a : Nat} (h : sqAt n a = none) : sqs n (a + 1) = sqs n a := by rw [sqs, h]; simp
theorem sqs_some {n a : Nat} {p : Int × Int} (h : sqAt n a = some p) : sqs n (a + 1) = sqs n a ++ [p] := by rw [sqs, h]; rfl
theorem sqAt_high {n a : Nat} (h : n < a * a) : sqAt n a = none := by unfold sqAt; rw [if_neg]; omega
theorem sqAt_low {n a : Nat} (h : 2 * a * a < n) : sqAt n a = none := by unfold sqAt; rw [if_neg]; omega
theorem sqAt_of {n a b : Nat} (h : a * a + b * b = n) (hb : b ≤ a) : sqAt n a = some ((a : Int), (b : Int)) := by
  have h1 : n - a * a = b * b := by omega
  have h2 := Nat.mul_le_mul hb hb
  unfold sqAt
  rw [h1, rt_sq, if_pos ⟨by rw [Nat.mul_assoc]; omega, by omega, h⟩]
theorem sqAt_get {n a : Nat} {p : Int × Int} (h : sqAt n a = some p) : ∃ b : Nat, p = ((a : Int), (b : Int)) ∧ a * a + b * b = n ∧ b ≤ a := by
  unfold sqAt at h
  split at h
  · rename_i hc
    injection h with h
    refine ⟨_, h.symm, hc.2.2, sq_le2 ?_⟩
    have := hc.1
    rw [Nat.mul_assoc] at this
    omega
  · cases h
theorem sqs_low {n : Nat} : ∀ {k : Nat}, (∀ a, a < k → 2 * a * a < n) → sqs n k = []
  | 0, _ => rfl
  | k + 1, h => by rw [sqs_none (sqAt_low (h k (by omega)))]; exact sqs_low fun a ha => h a (by omega)
/-- All of them. -/
def sqAll (n : Nat) : List (Int × Int) := sqs n (rt n + 1)
theorem sqs_high {n : Nat} : ∀ {d k : Nat}, n < k * k → sqs n (k + d) = sqs n k
  | 0, _, _ => rfl
  | d + 1, k, h => by
    rw [← Nat.add_assoc, sqs_none (sqAt_high (Nat.lt_of_lt_of_le h (Nat.mul_le_mul (by omega) (by omega))))]
    exact sqs_high h
theorem sqs_all {n k : Nat} (h : n < k * k) : sqs n k = sqAll n := by
  have h1 := rt_spec n
  have h2 := sq_lt (Nat.lt_of_le_of_lt h1.1 h)
  obtain ⟨d, rfl⟩ : ∃ d, k = rt n + 1 + d := ⟨k - (rt n + 1), by omega⟩
  exact sqs_high h1.2
end Go.Proofs.Ytbiiglcfdphmaaa


/- Slices of the call's own in the walk's state: nothing, append, what is read. -/
namespace Go.Proofs.Ytbiiglcfdphmaaa
open Go Go.RowKit Dig
set_option linter.unusedVariables false

theorem Lst.nil (w : World) (B : Nat) (ty : TypeId) (sz : Nat) : Lst w B ty sz (.slice none 0 0) 0 [] := ⟨World.ownsRow_nil _ _ _ _, fun k cur h => by simp [Value.ownBlock] at h⟩
theorem nd_zero {z : Array Value} (h : z.toList.all nd = true) (n : Nat) : (Builtin.zeroCells z n).toList.all nd = true := by
  simp only [List.all_eq_true] at *
  intro x hx
  unfold Builtin.zeroCells at hx
  simp only [Array.mem_toList_iff, Array.mem_map, Array.mem_range] at hx
  obtain ⟨a, ha, rfl⟩ := hx
  have hz : 0 < z.size := by
    rcases Nat.eq_zero_or_pos z.size with h0 | h0
    · rw [h0, Nat.mul_zero] at ha; omega
    · exact h0
  rw [getElem!_pos z _ (Nat.mod_lt a hz)]
  exact h _ (by simp)
theorem Lst.append {P : Program} {w : World} (base : Nat) (t ty e : TypeId) (i : TypeInfo) (z : Value) (size bytes : Nat) (ht : P.underlying t = some (.slice e)) (hi : P.info? e = some i) (hz : i.zero = some z)
    (hsize : i.size = size) (hby : i.bytes = bytes) (hzs : z.cells.size = size) (hsz : 0 < size) (hzn : z.cells.toList.all nd = true)
    (v : Value) (n : Nat) (xs : List Value) (hown : Lst w base e size v n xs)
    (a : Addr) (m c : Nat) (news : List Value) (hm : 0 < m) (hl : news.length = m * size) (hnews : ∀ j u, news[j]? = some u → w.cell? (a.add j) = some u) (h1 : ∀ u ∈ news, u.oneCell' = true) (hnn : news.all nd = true)
    (h63 : n + m ≤ maxLen) (hbytes : (n + m) * bytes ≤ 140737488355328) (hbase : base ≤ w.heap.size) :
    ∃ v' w', (Builtin.append_ #[t, t] ty #[v, .slice (some a) m c]).run P w = .ok v' w' ∧ Lst w' base e size v' (n + m) (xs ++ news) ∧ w.grownBy w' v.ownBlock ∧ (v'.ownBlock = v.ownBlock ∨ v'.ownBlock = some w.heap.size) := by
  obtain ⟨v', w', hr, h2, h3, h4, h5⟩ := run_append_own_at (P := P) w base t ty e i z size bytes ht hi hz hsize hby hzs hsz v n xs hown.1 a m c news hl hnews h1 h63 hbytes hbase
  refine ⟨v', w', hr, ⟨h2, ?_⟩, h3, h5⟩
  subst hsize
  subst hby
  have hnx : xs.all nd = true := by
    rcases hown.1.2 with ⟨rfl, h0⟩ | ⟨g, cap, cur, rfl, hbg, hg, hnc, hcm, hcs, htake⟩
    · have := hown.1.1
      rw [h0, Nat.zero_mul] at this
      rw [List.eq_nil_of_length_eq_zero this]; rfl
    · rw [← htake]
      have := hown.2 g cur rfl hg
      rw [List.all_eq_true] at this ⊢
      exact fun x hx => this x (List.mem_of_mem_take hx)
  have h63' : n + m ≤ 9223372036854775807 := by simp only [maxLen] at h63; omega
  rcases hown.1.2 with ⟨rfl, rfl⟩ | ⟨g, cap, cur, rfl, hbg, hg, hnc, hcm, hcs, htake⟩
  · have hr2 := run_append_nil (P := P) w t ty e i z ht hi hz a m c news hl hnews hm (by omega) (by rw [Nat.zero_add] at hbytes; omega)
    rw [hr] at hr2
    injection hr2 with e1 e2
    subst e1 e2
    intro k cur hk hc
    obtain rfl : w.heap.size = k := by simpa [Value.ownBlock] using hk
    rw [show (w.drew.alloc (.cells (news.toArray ++ Builtin.zeroCells z.cells (grownCap w m 0 e - m)) e)).heap[w.heap.size]? = _ from heap_alloc_new w.drew _] at hc
    injection hc with hc
    injection hc with hc
    rw [← hc, Array.toList_append, List.all_append, Bool.and_eq_true]
    exact ⟨hnn, nd_zero hzn _⟩
  · by_cases hroom : n + m ≤ cap
    · have hfit : n * i.size + news.length ≤ cur.size := by rw [hl, hcs, ← Nat.add_mul]; exact Nat.mul_le_mul_right _ hroom
      have hr2 := run_append_room (P := P) w t ty e i ht hi g n cap cur hg a m c news hl hnews h1 hroom hfit
      rw [hr] at hr2
      injection hr2 with e1 e2
      subst e1 e2
      intro k cur2 hk hc
      obtain rfl : g = k := by simpa [Value.ownBlock] using hk
      rw [setRow_heap w g cur _ e _ hg] at hc
      injection hc with hc
      injection hc with hc
      rw [← hc]
      have h6 := hown.2 g cur rfl hg
      rw [List.all_eq_true] at h6
      rw [List.all_append, List.all_append, hnn]
      simp only [Bool.and_eq_true, List.all_eq_true, and_true]
      exact ⟨fun x hx => h6 x (List.mem_of_mem_take hx), fun x hx => h6 x (List.mem_of_mem_drop hx)⟩
    · have holds : ∀ j u, xs[j]? = some u → w.cell? ((⟨g, 0, none⟩ : Addr).add j) = some u := hown.1.cells (g := g) rfl
      have hr2 := run_append_grow (P := P) w t ty e i z ht hi hz ⟨g, 0, none⟩ n cap xs hown.1.1 holds a m c news hl hnews (by omega) (by omega) (growslice_fits (by omega) hbytes)
      rw [hr] at hr2
      injection hr2 with e1 e2
      subst e1 e2
      intro k cur2 hk hc
      obtain rfl : w.heap.size = k := by simpa [Value.ownBlock] using hk
      rw [show (w.drew.alloc (.cells (xs.toArray ++ news.toArray ++ Builtin.zeroCells z.cells (grownCap w (n + m) cap e - (n + m))) e)).heap[w.heap.size]? = _ from heap_alloc_new w.drew _] at hc
      injection hc with hc
      injection hc with hc
      rw [← hc, Array.toList_append, Array.toList_append, List.all_append, List.all_append, Bool.and_eq_true, Bool.and_eq_true]
      exact ⟨⟨hnx, hnn⟩, nd_zero hzn _⟩
theorem PC.k {w w' : World} {v : Value} {x y : Int} (h : PC w v x y) (k : Kp w w') : PC w' v x y := by
  obtain ⟨n1, o1, k1, c1, n2, o2, k2, c2, rfl, h1, h2⟩ := h
  exact .mk' (h1.k k) (h2.k k)
/-- Gaussian integers, canonical, one behind the other. -/
def GD (w : World) : List Value → List (Int × Int) → Prop
  | [], [] => True
  | c1 :: c2 :: c3 :: c4 :: xs, p :: ps => PC w (.agg #[c1, c2, c3, c4]) p.1 p.2 ∧ GD w xs ps
  | _, _ => False
theorem GD.nil (w : World) : GD w [] [] := trivial
theorem GD.k' {w w' : World} (k : Kp w w') : ∀ {xs : List Value} {ps : List (Int × Int)}, GD w xs ps → GD w' xs ps
  | [], [], _ => trivial
  | _ :: _ :: _ :: _ :: _, _ :: _, h => ⟨h.1.k k, GD.k' k h.2⟩
theorem GD.k {w w' : World} {xs : List Value} {ps : List (Int × Int)} (h : GD w xs ps) (k : Kp w w') : GD w' xs ps := GD.k' k h
theorem GD.snoc' {w : World} {c1 c2 c3 c4 : Value} {x y : Int} (h2 : PC w (.agg #[c1, c2, c3, c4]) x y) : ∀ {xs : List Value} {ps : List (Int × Int)}, GD w xs ps → GD w (xs ++ [c1, c2, c3, c4]) (ps ++ [(x, y)])
  | [], [], _ => ⟨h2, trivial⟩
  | _ :: _ :: _ :: _ :: _, _ :: _, h => ⟨h.1, GD.snoc' h2 h.2⟩
theorem GD.snoc {w : World} {xs : List Value} {ps : List (Int × Int)} {c1 c2 c3 c4 : Value} {x y : Int} (h : GD w xs ps) (h2 : PC w (.agg #[c1, c2, c3, c4]) x y) : GD w (xs ++ [c1, c2, c3, c4]) (ps ++ [(x, y)]) := GD.snoc' h2 h
theorem Kp.t {w w1 w2 : World} (h : Kp w w1) (h' : Kp w1 w2) : Kp w w2 := fun _ _ hc => h' _ _ (h _ _ hc)
theorem GD.len {w : World} : ∀ {xs : List Value} {ps : List (Int × Int)}, GD w xs ps → xs.length = ps.length * 4
  | [], [], _ => rfl
  | _ :: _ :: _ :: _ :: xs, _ :: ps, h => by have := GD.len h.2; simp only [List.length_cons]; omega
theorem GD.get {w : World} : ∀ {xs : List Value} {ps : List (Int × Int)} {i : Nat}, GD w xs ps → (h : i < ps.length) → ∃ c1 c2 c3 c4, xs[i * 4]? = some c1 ∧ xs[i * 4 + 1]? = some c2 ∧ xs[i * 4 + 2]? = some c3 ∧ xs[i * 4 + 3]? = some c4 ∧ PC w (.agg #[c1, c2, c3, c4]) ps[i].1 ps[i].2
  | [], [], _, _, hi => absurd hi (Nat.not_lt_zero _)
  | c1 :: c2 :: c3 :: c4 :: xs, p :: ps, 0, h, _ => ⟨c1, c2, c3, c4, rfl, rfl, rfl, rfl, h.1⟩
  | c1 :: c2 :: c3 :: c4 :: xs, p :: ps, i + 1, h, hi => by
    obtain ⟨d1, d2, d3, d4, e1, e2, e3, e4, hp⟩ := GD.get (i := i) h.2 (by simpa using hi)
    have e : ∀ j, (c1 :: c2 :: c3 :: c4 :: xs)[(i + 1) * 4 + j]? = xs[i * 4 + j]? := fun j => by
      rw [show (i + 1) * 4 + j = i * 4 + j + 1 + 1 + 1 + 1 by omega]; rfl
    exact ⟨d1, d2, d3, d4, (e 0).trans e1, (e 1).trans e2, (e 2).trans e3, (e 3).trans e4, hp⟩
theorem addr_add0 (g j : Nat) : (⟨g, 0, none⟩ : Addr).add j = ⟨g, j, none⟩ := by
  unfold Addr.add
  split
  · subst_vars; rfl
  · simp
theorem Bs.lo {w w' : World} {g B : Nat} {cs : Array Value} {ty : TypeId} (h : Bs w g cs ty) (hl : g < B) (hb : Below B w w') : Bs w' g cs ty := by
  unfold Bs; rw [hb.block g hl]; exact h
theorem Lst.shape {w : World} {B : Nat} {ty : TypeId} {sz : Nat} {v : Value} {n : Nat} {xs : List Value} (h : Lst w B ty sz v n xs) : ∃ o c, v = .slice o n c := by
  rcases h.1.2 with ⟨rfl, rfl⟩ | ⟨g, cap, cur, rfl, _⟩
  · exact ⟨_, _, rfl⟩
  · exact ⟨_, _, rfl⟩
/-- The block that a slice lies in. -/
theorem Lst.box {w : World} {B : Nat} {ty : TypeId} {sz : Nat} {o : Option Addr} {n c : Nat} {xs : List Value} (h : Lst w B ty sz (.slice o n c) n xs) (hn : 0 < n) : ∃ g cur, o = some ⟨g, 0, none⟩ ∧ Bs w g cur ty ∧ ∀ (j : Nat) (u : Value), xs[j]? = some u → cur[j]? = some u := by
  rcases h.1.2 with ⟨e, h0⟩ | ⟨g, cap, cur, e, hb, hg, hnc, hcm, hcs, htake⟩
  · omega
  · simp only [Value.slice.injEq] at e
    obtain ⟨rfl, _, rfl⟩ := e
    refine ⟨g, cur, rfl, hg, fun j u hj => ?_⟩
    rw [← htake] at hj
    have hj2 : j < n * sz := by
      rcases Nat.lt_or_ge j (n * sz) with h1 | h1
      · exact h1
      · rw [List.getElem?_eq_none (by rw [List.length_take]; omega)] at hj; cases hj
    rw [List.getElem?_take, if_pos hj2] at hj
    rw [← hj, Array.getElem?_toList]
/-- An element of a list of Gaussian integers. -/
theorem GD.at {w : World} {xs : List Value} {ps : List (Int × Int)} {i : Nat} (h : GD w xs ps) (hi : i < ps.length) : ∃ n1 o1 k1 c1 n2 o2 k2 c2, xs[i * 4]? = some (.bool n1) ∧ xs[i * 4 + 1]? = some (.slice o1 k1 c1) ∧ xs[i * 4 + 2]? = some (.bool n2) ∧ xs[i * 4 + 3]? = some (.slice o2 k2 c2) ∧ ZC w (.agg #[.bool n1, .slice o1 k1 c1]) ps[i].1 ∧ ZC w (.agg #[.bool n2, .slice o2 k2 c2]) ps[i].2 := by
  obtain ⟨a1, a2, a3, a4, e1, e2, e3, e4, n1, o1, k1, c1, n2, o2, k2, c2, hv, z1, z2⟩ := h.get hi
  simp only [Value.agg.injEq, Array.mk.injEq, List.cons.injEq, and_true] at hv
  obtain ⟨rfl, rfl, rfl, rfl⟩ := hv
  exact ⟨n1, o1, k1, c1, n2, o2, k2, c2, e1, e2, e3, e4, z1, z2⟩
theorem Lst.mono {w : World} {B C : Nat} {ty : TypeId} {sz : Nat} {v : Value} {n : Nat} {xs : List Value} (h : Lst w B ty sz v n xs) (hC : C ≤ B) : Lst w C ty sz v n xs := by
  refine ⟨⟨h.1.1, ?_⟩, h.2⟩
  rcases h.1.2 with hn | ⟨g, cap, cur, hv, hb, rest⟩
  · exact .inl hn
  · exact .inr ⟨g, cap, cur, hv, Nat.le_trans hC hb, rest⟩
theorem kp_grown {w w' : World} {row : Option Nat} (hg : w.grownBy w' row) (hn : ∀ k, row = some k → NoD w k) : Kp w w' := fun oa ds h => by
  by_cases hne : ds = []
  · exact .inl hne
  · obtain ⟨c, off, e, hc⟩ := h.resolve_left hne
    refine .inr ⟨c, off, e, fun i hi => ?_⟩
    have h1 := hc i hi
    refine hg.cell h1 fun hc2 => ?_
    exact (hn c hc2.symm).1 _ _ h1
theorem Lst.nod {w : World} {B : Nat} {ty : TypeId} {sz : Nat} {v : Value} {n : Nat} {xs : List Value} (h : Lst w B ty sz v n xs) (ht : (ty == 76) = false) : ∀ k, v.ownBlock = some k → NoD w k := by
  intro k hk
  rcases h.1.2 with ⟨rfl, _⟩ | ⟨g, cap, cur, rfl, hb, hgg, _⟩
  · simp [Value.ownBlock] at hk
  · obtain rfl : g = k := by simpa [Value.ownBlock] using hk
    exact Bs.nod (cs := cur) (ty := ty) hgg (h.2 g cur rfl hgg) ht
section
variable {w0 w w' : World} {bs : List En} {B : Nat} {ty : TypeId} {sz n : Nat} {v : Value} {xs : List Value}
/-- A slice that a call has made joins the state. -/
theorem St.la (h : St w0 bs w) (hb : Below w.heap.size w w') (x : Lst w' w.heap.size ty sz v n xs) : St w0 (ls w0.heap.size ty sz v n xs :: bs) w' :=
  .cons (.ls (x.mono h.k)) (fun f hf k hk hc => by
    have h1 := h.lt f hf k hc
    have h2 := (x.1.lt k hk).1
    omega) (h.bl hb)
theorem St.l0 (h : St w0 bs w) (ty : TypeId) (sz : Nat) : St w0 (ls w0.heap.size ty sz (.slice none 0 0) 0 [] :: bs) w :=
  .cons (.ls (Lst.nil _ _ _ _)) (fun f hf k hk => by simp [ls, Value.ownBlock] at hk) h
end
/-- Two entries lie in two blocks. -/
theorem FD.ne {l : List (Option Nat)} {i j a b : Nat} (h : FD l) (hi : l[i]? = some (some a)) (hj : l[j]? = some (some b)) (hij : i ≠ j) : a ≠ b := by
  intro e
  subst e
  obtain ⟨hi1, hi2⟩ := List.getElem?_eq_some_iff.1 hi
  obtain ⟨hj1, hj2⟩ := List.getElem?_eq_some_iff.1 hj
  have hp := List.pairwise_iff_getElem.1 h
  rcases Nat.lt_or_gt_of_ne hij with h1 | h1
  · exact hp i j hi1 hj1 h1 a hi2 hj2
  · exact hp j i hj1 hi1 h1 a hj2 hi2
theorem St.ne {w0 w : World} {bs : List En} (h : St w0 bs w) (i j : Nat) {a b : Nat} (hi : (bs.map (·.1))[i]? = some (some a) := by rfl) (hj : (bs.map (·.1))[j]? = some (some b) := by rfl) (hij : i ≠ j := by decide) : Hid (a ≠ b) := h.d.ne hi hj hij
/-- A block laid out whole is a slice of the call's own. -/
theorem Lst.ofBs {w : World} {B p n sz : Nat} {xs : List Value} {ty : TypeId} (x : Bs w p xs.toArray ty) (hB : Hid (B ≤ p)) (hn : xs.length = n * sz := by rfl) (hnd : xs.all nd = true := by rfl) (hm : n ≤ maxLen := by decide) : Lst w B ty sz (.slice (some ⟨p, 0, none⟩) n n) n xs := by
  refine ⟨⟨hn, .inr ⟨p, n, xs.toArray, rfl, hB, x, Nat.le_refl _, hm, by simpa using hn, ?_⟩⟩, fun k cur hk hc => ?_⟩
  · rw [← hn]; simp
  · obtain rfl : p = k := by simpa [Value.ownBlock] using hk
    unfold Bs at x
    rw [x] at hc
    injection hc with hc
    injection hc with hc
    rw [← hc]; simpa using hnd
theorem GD.one {w : World} {xs : List Value} {x y : Int} (h : GD w xs [(x, y)]) : ∃ n1 o1 k1 c1 n2 o2 k2 c2, xs = [.bool n1, .slice o1 k1 c1, .bool n2, .slice o2 k2 c2] ∧ ZC w (.agg #[.bool n1, .slice o1 k1 c1]) x ∧ ZC w (.agg #[.bool n2, .slice o2 k2 c2]) y := by
  match xs, h with
  | [c1, c2, c3, c4], h =>
    obtain ⟨n1, o1, k1, q1, n2, o2, k2, q2, hv, z1, z2⟩ := h.1
    simp only [Value.agg.injEq, Array.mk.injEq, List.cons.injEq, and_true] at hv
    obtain ⟨rfl, rfl, rfl, rfl⟩ := hv
    exact ⟨_, _, _, _, _, _, _, _, rfl, z1, z2⟩
  | _ :: _ :: _ :: _ :: _ :: _, h => exact absurd h.2 (by simp [GD])
section
variable {P : Program} {o : Oper} {a : Act} {w w0 : World} {B : Exit → Act → World → Prop} {E : World → Prop} {G : Act → World → Prop} {bs : List En}
/-- One element is appended. -/
theorem Stp.ap {v z : Value} {n sz q c : Nat} {xs news : List Value} {e t ety : TypeId} {inf : TypeInfo} {sv xv : Operand} {a' : Value → Act} (i : Nat) (hs : St w0 bs w) (x : Bs w q news.toArray ety)
    (h : ∀ o' c' w', St w0 (bs.set i (ls w0.heap.size e sz (.slice o' (n + 1) c') (n + 1) (xs ++ news))) w' → Kp w w' → Below w0.heap.size w w' → G (a' (.slice o' (n + 1) c')) w')
    (hi : bs[i]? = some (ls w0.heap.size e sz v n xs) := by rfl) (hn : n ≤ 100000000000 := by omega)
    (ho : o.op = .call { callee := .builtin .append, args := #[sv, xv], argTypes := #[t, t] } := by rfl) (hsv : a.eval sv = v := by rfl) (hxv : a.eval xv = .slice (some ⟨q, 0, none⟩) 1 c := by rfl)
    (ht : P.underlying t = some (.slice e) := by rfl) (hinf : P.info? e = some inf := by rfl) (hz : inf.zero = some z := by rfl)
    (hsz : inf.size = sz := by rfl) (hzs : z.cells.size = sz := by rfl) (h0 : 0 < sz := by decide) (hzn : z.cells.toList.all nd = true := by rfl) (hby : inf.bytes ≤ 1000 := by decide) (hlen : news.length = sz := by rfl)
    (h1 : news.all Value.oneCell' = true := by rfl) (hnn : news.all nd = true := by rfl) (hu : (e == 76) = false := by rfl)
    (hp : ∀ v', a.put o.dst v' = a' v' := by intro v'; unfold Act.put; simp only [List.setIfInBounds_toArray, List.set_cons_succ, List.set_cons_zero]; rfl)
    (eE : ∀ w', Below w.heap.size w w' ∨ True → E w' := by exact fun _ _ => trivial) (hd : ∀ v', (a' v').defers = a.defers := by exact fun _ => rfl) : Stp P o a w B E G := fun K hK => by
  have hL : Lst w w0.heap.size e sz v n xs := by
    have h2 := hs.1
    have : ∀ {bs : List En} {i : Nat} {en : En}, AllE bs w → bs[i]? = some en → Ok en w := by
      intro bs
      induction bs with
      | nil => intro i en _ hi; simp at hi
      | cons b t ih =>
        intro i en hA hi
        cases i with
        | zero => obtain rfl : b = en := by simpa using hi
                  exact hA.1
        | succ i => exact ih hA.2 (by simpa using hi)
    exact (this h2 hi).1
  have hnews : ∀ j u, news[j]? = some u → w.cell? ((⟨q, 0, none⟩ : Addr).add j) = some u := fun j u hj => by
    rw [addr_add0]
    exact x.cell j (c := u) (by simpa using hj)
  obtain ⟨v', w', hr, h2, h3, h4⟩ := Lst.append (P := P) w0.heap.size t o.type e inf z sz inf.bytes ht hinf hz hsz rfl hzs h0 hzn v n xs hL ⟨q, 0, none⟩ 1 c news (by decide) (by rw [hlen, Nat.one_mul]) hnews (List.all_eq_true.1 h1) hnn (by unfold maxLen; omega) (Nat.le_trans (Nat.mul_le_mul_left _ hby) (by omega)) hs.k
  obtain ⟨o', c', rfl⟩ := h2.shape
  have hst : St w0 (bs.set i (ls w0.heap.size e sz (.slice o' (n + 1) c') (n + 1) (xs ++ news))) w' := by
    refine hs.st i hi (fun k hk hne => h3.block k hk hne) h3.size (.ls h2) (fun k hk => ?_) ?_
    · rcases h4 with h5 | h5
      · exact .inl (h5.symm.trans hk)
      · right
        have h6 : some w.heap.size = some k := h5.symm.trans hk
        injection h6 with h6
        omega
    · refine ⟨h3.os.trans hs.b.os, h3.tape.trans hs.b.tape, h3.output.trans hs.b.output, Nat.le_trans hs.k h3.size, fun k hk => ?_⟩
      rw [h3.block k (Nat.lt_of_lt_of_le hk hs.k) fun hc => ?_]
      · exact hs.b.block k hk
      · have := (hL.1.lt k hc.symm).1
        omega
  unfold Oper.wp execOp
  simp only [ho, resolve, invoke, builtin, Sem.run_bind, Sem.run_pure, Result.andThen_ok, List.map_toArray, List.map_cons, List.map_nil, hsv, hxv, hr]
  have h7 := hK (a' (.slice o' (n + 1) c')) w' (hd _) (eE _ (.inr trivial)) (h _ _ _ hst (kp_grown h3 (hL.nod hu)) ⟨h3.os, h3.tape, h3.output, h3.size, fun k hk => h3.block k (Nat.lt_of_lt_of_le hk hs.k) fun hc => Nat.lt_irrefl _ (Nat.lt_of_lt_of_le hk (hL.1.lt k hc.symm).1)⟩)
  rw [← hp] at h7
  exact h7
end
end Go.Proofs.Ytbiiglcfdphmaaa


/- A scope through which the run goes forward alone: each goto leads to a label, from which what is left of the scope is walked in its turn. -/
namespace Go.Proofs.Ytbiiglcfdphmaaa
open Go

/-- As Q; by a goto to a label of the scope's body: what stands behind the label, walked with one jump less. -/
def scopeQ (P : Program) (c : Code) (Q : Exit → Act → World → Prop) : Nat → Exit → Act → World → Prop
  | 0, .goto _, _, _ => False
  | n + 1, .goto l, a, w => ∃ rest, findLabel c l = some rest ∧ rest.wp P (scopeQ P c Q n) a w
  | _, e, a, w => Q e a w
theorem scopeQ_goto {P : Program} {c rest : Code} {Q : Exit → Act → World → Prop} {n l : Nat} {a : Act} {w : World} (hf : findLabel c l = some rest) (h : rest.wp P (scopeQ P c Q n) a w) : scopeQ P c Q (n + 1) (.goto l) a w := ⟨rest, hf, h⟩
theorem scopeQ_normal {P : Program} {c : Code} {Q : Exit → Act → World → Prop} {n : Nat} {a : Act} {w : World} (h : Q .normal a w) : scopeQ P c Q n .normal a w := by cases n <;> exact h
theorem scopeQ_ret {P : Program} {c : Code} {Q : Exit → Act → World → Prop} {n : Nat} {a : Act} {w : World} (h : Q .ret a w) : scopeQ P c Q n .ret a w := by cases n <;> exact h
theorem wp_scope_fwd {P : Program} {a : Act} {w : World} {Q : Exit → Act → World → Prop} {c : Code} (n : Nat) (first : c.wp P (scopeQ P c Q n) a w) : (Code.scope c).wp P Q a w := by
  intro b k cs
  have key : ∀ (n : Nat) (d : Code) (a : Act) (w : World), d.wp P (scopeQ P c Q n) a w → ∃ e a' w', Q e a' w' ∧ Arrives P (lone (b.at a (.code d :: .inScope c :: k)) cs w) b k cs e a' w' := by
    intro n
    induction n with
    | zero =>
      intro d a w h
      obtain ⟨e, a₁, w₁, hq, harr⟩ := h b (.inScope c :: k) cs
      cases e with
      | normal => exact ⟨.normal, a₁, w₁, hq, Steps.trans harr (.one step_inScope)⟩
      | exit id => exact ⟨.exit id, a₁, w₁, hq, fun k' hk => harr k' (by simp [exitTo, hk])⟩
      | goto l' => exact hq.elim
      | ret => exact ⟨_, a₁, w₁, hq, harr⟩
      | panic ch => exact ⟨_, a₁, w₁, hq, harr⟩
      | outgrown => exact ⟨_, a₁, w₁, hq, harr⟩
    | succ n ih =>
      intro d a w h
      obtain ⟨e, a₁, w₁, hq, harr⟩ := h b (.inScope c :: k) cs
      cases e with
      | normal => exact ⟨.normal, a₁, w₁, hq, Steps.trans harr (.one step_inScope)⟩
      | exit id => exact ⟨.exit id, a₁, w₁, hq, fun k' hk => harr k' (by simp [exitTo, hk])⟩
      | goto l' =>
        obtain ⟨rest, hf, hr⟩ := hq
        have hg : gotoIn l' (.inScope c :: k) = some (.code rest :: .inScope c :: k) := by simp [gotoIn, hf]
        obtain ⟨e₂, a₂, w₂, hq₂, harr₂⟩ := ih rest a₁ w₁ hr
        exact ⟨e₂, a₂, w₂, hq₂, .of_steps (harr _ hg) harr₂⟩
      | ret => exact ⟨_, a₁, w₁, hq, harr⟩
      | panic ch => exact ⟨_, a₁, w₁, hq, harr⟩
      | outgrown => exact ⟨_, a₁, w₁, hq, harr⟩
  obtain ⟨e, a₁, w₁, hq, harr⟩ := key n c a w first
  cases e with
  | normal => exact ⟨.normal, a₁, w₁, hq, Steps.trans (.one step_scope) harr⟩
  | exit id => exact ⟨.exit id, a₁, w₁, hq, fun k' hk => .head step_scope (harr k' hk)⟩
  | goto l' => exact ⟨.goto l', a₁, w₁, hq, fun k' hk => .head step_scope (harr k' hk)⟩
  | ret => exact ⟨_, a₁, w₁, hq, .of_steps (.one step_scope) harr⟩
  | panic ch => exact ⟨_, a₁, w₁, hq, .of_steps (.one step_scope) harr⟩
  | outgrown => exact ⟨_, a₁, w₁, hq, .of_steps (.one step_scope) harr⟩
/-- The same with what stands at the scope's ways out behind a name: a goto by 'hg', a return by 'hr', its end by 'hn'. -/
theorem wp_scope_k {P : Program} {a : Act} {w : World} {Q : Exit → Act → World → Prop} {c : Code} (n : Nat)
    (first : ∀ S : Nat → Exit → Act → World → Prop, (∀ m a w, Q .ret a w → S m .ret a w) → (∀ m a w, Q .normal a w → S m .normal a w) →
      (∀ m l rest a w, findLabel c l = some rest → rest.wp P (S m) a w → S (m + 1) (.goto l) a w) → c.wp P (S n) a w) : (Code.scope c).wp P Q a w :=
  wp_scope_fwd n (first (scopeQ P c Q) (fun _ _ _ h => scopeQ_ret h) (fun _ _ _ h => scopeQ_normal h) fun _ _ _ _ _ hf h => scopeQ_goto hf h)
end Go.Proofs.Ytbiiglcfdphmaaa


/- gprime.squares. -/
namespace Go.Proofs.Ytbiiglcfdphmaaa
open Go Go.RowKit Dig
set_option linter.unusedVariables false

theorem sq2_bd {r n : Nat} (h : 2 * r * r < n) (hn : n < 4294967296) : r ≤ 46340 := by
  rcases Nat.lt_or_ge r 46341 with h1 | h1
  · omega
  · have := Nat.mul_le_mul h1 h1
    rw [Nat.mul_assoc] at h
    omega
section
variable {w : World}
set_option maxHeartbeats 4000000 in
set_option maxRecDepth 20000 in
theorem squares_any (n : Nat) (hn : n < 4294967296) :
    Calls Try.prog 49 #[.int .u64 (n : Int)] w fun e w' => ∃ o c xs, e = .returned (.slice o (sqAll n).length c) ∧ Lst w' w.heap.size 29 4 (.slice o (sqAll n).length c) (sqAll n).length xs ∧ GD w' xs (sqAll n) ∧ Below w.heap.size w w' := by
  go_enter Try.func49, Try.ntmps49
  have hs := St.nil w
  refine wp_seq_k ?_
  intro K1 hK1
  refine rg [0] ?_
  refine sq ?_
  refine .mv ?_
  apply wpSq_end
  refine hK1 _ _ ?_
  refine wp_scope_k 9 ?_
  intro S hSr hSn hSg
  refine wp_seq_k ?_
  intro K2 hK2
  refine rg [0] ?_
  refine sq ?_
  refine .mv ?_
  apply wpSq_end
  refine hK2 _ _ ?_
  refine wp_seq_k ?_
  intro K3 hK3
  refine wp_block ?_
  have hd1 := hs.2.1
  go_loopg [3] 46342 (fun k s3 wr => ∃ r : Nat, s3 = .int .u64 (r : Int) ∧ r + k = 46342 ∧ Hid (∀ a, a < r → 2 * a * a < n) ∧ St w [] wr)
  case atStart => exact ⟨0, rfl, rfl, hide (fun a h => absurd h (Nat.not_lt_zero _)), hs⟩
  case round =>
  clear hs
  obtain ⟨r, rfl, hrk, HI, hs⟩ := hrel
  have hp : 2 * (r : Int) * (r : Int) = ((2 * r * r : Nat) : Int) := by simp
  by_cases h2 : 2 * r * r < n
  · have hr := sq2_bd h2 hn
    have HI' := hide (show ∀ a, a < r + 1 → 2 * a * a < n from fun a ha => by
      rcases Nat.lt_or_ge a r with h | h
      · exact HI.out a h
      · obtain rfl : a = r := by omega
        exact h2)
    clear HI
    generalize 2 * r * r = q at *
    have h5 : ((q : Int) < (n : Int)) = True := by simp; omega
    refine wp_seq_k ?_
    intro K4 hK4
    refine wp_seq_k ?_
    intro K5 hK5
    refine rg [0, 1, 2, 3, 4, 5] ?_
    refine sq ?_
    refine .mv ?_
    refine sq ?_
    refine .r0 ?_
    refine sq ?_
    refine .mv ?_
    refine sq ?_
    refine .r0 ?_
    refine sq ?_
    refine .mv ?_
    refine sq ?_
    refine .r0 ?_
    apply wpSq_end
    refine hK5 _ _ ?_
    refine ct ?_
    refine wp_skip ?_
    refine hK4 _ _ ?_
    refine wp_block ?_
    refine rg [0, 1, 2] ?_
    refine sq ?_
    refine .mv ?_
    refine sq ?_
    refine .r0 ?_
    refine sq ?_
    refine .mv ?_
    apply wpSq_end
    refine ‹∀ (a' : Act) (w' : World), Handed _ _ a' w' → _› _ _ ?_
    go_roundg (gk - 1)
    case rel => exact ⟨r + 1, by rfl, by omega, HI', hs⟩
    case measure => omega
  · have hr2 : 2 * r * r ≤ 17179869184 := by rw [Nat.mul_assoc]; have := Nat.mul_le_mul (show r ≤ 46342 by omega) (show r ≤ 46342 by omega); omega
    have HL := hide (sqs_low HI.out)
    have HM := hide (show ∀ a b : Nat, r ≤ a → a * a + b * b = n → b ≤ a → b ≤ r from fun a b ha hab hba => by
      rcases Nat.lt_or_ge r b with h | h
      · have h3 := Nat.mul_le_mul h h
        have h4 := Nat.mul_le_mul (show r + 1 ≤ a by omega) (show r + 1 ≤ a by omega)
        have h5 : (r + 1) * (r + 1) = r * r + 2 * r + 1 := by grind
        rw [Nat.mul_assoc] at h2
        simp only [Nat.succ_eq_add_one] at h3
        omega
      · exact h)
    generalize 2 * r * r = q at *
    have h5 : ((q : Int) < (n : Int)) = False := by simp; omega
    have hr3 : r ≤ 46342 := by omega
    clear HI hrk
    refine wp_seq_k ?_
    intro K4 hK4
    refine wp_seq_k ?_
    intro K5 hK5
    refine rg [0, 1, 2, 3, 4, 5] ?_
    refine sq ?_
    refine .mv ?_
    refine sq ?_
    refine .r0 ?_
    refine sq ?_
    refine .mv ?_
    refine sq ?_
    refine .r0 ?_
    refine sq ?_
    refine .mv ?_
    refine sq ?_
    refine .r0 ?_
    apply wpSq_end
    refine hK5 _ _ ?_
    refine cf ?_
    refine wp_exit ?_
    refine hK3 _ _ ?_
    refine wp_seq_k ?_
    intro K6 hK6
    refine rg [0, 1] ?_
    refine sq ?_
    refine .mv ?_
    refine sq ?_
    refine .mv ?_
    apply wpSq_end
    refine hK6 _ _ ?_
    refine wp_seq_k ?_
    intro K7 hK7
    refine rg [0] ?_
    refine sq ?_
    refine .mv ?_
    apply wpSq_end
    refine hK7 _ _ ?_
    refine wp_seq_k ?_
    intro K8 hK8
    refine wp_label ?_
    refine hK8 _ _ ?_
    refine wp_seq_k ?_
    intro K9 hK9
    refine wp_block ?_
    have hd2 := hs.2.1
    go_loopg [3, 4, 5] 65537 (fun k s3 s4 s5 wr => ∃ (r m N : Nat) (o : Option Addr) (c : Nat) (xs : List Value) (L : List (Int × Int)), s3 = .int .u64 (r : Int) ∧ s4 = .int .u64 (m : Int) ∧ s5 = .slice o N c ∧ r + k = 65537 + m ∧ m ≤ r ∧ r ≤ 65536 ∧ N ≤ r ∧ Hid (L = sqs n r ∧ N = L.length ∧ ∀ a b : Nat, r ≤ a → a * a + b * b = n → b ≤ a → b ≤ m) ∧ GD wr xs L ∧ St w [ls w.heap.size 29 4 (.slice o N c) N xs] wr)
    case atStart => exact ⟨r, r, 0, none, 0, [], [], rfl, rfl, rfl, by omega, Nat.le_refl _, by omega, by omega, hide ⟨HL.out.symm, rfl, HM.out⟩, GD.nil _, hs.l0 _ _⟩
    case round =>
    clear h5 h2 hp
    clear hs
    obtain ⟨r, m, N, o, c, xs, L, rfl, rfl, rfl, hrk, hmr, hr, hN, HI, d, hs⟩ := hrel
    have hp1 : (r : Int) * (r : Int) = ((r * r : Nat) : Int) := by simp
    have hp2 : (m : Int) * (m : Int) = ((m * m : Nat) : Int) := by simp
    have hb1 : r * r ≤ 4294967296 := Nat.mul_le_mul hr hr
    have hb2 : m * m ≤ 4294967296 := Nat.mul_le_mul (Nat.le_trans hmr hr) (Nat.le_trans hmr hr)
    by_cases h3 : r * r + m * m < n
    · have HN := hide (sqs_none (n := n) (a := r) (by
        cases e : sqAt n r with
        | none => rfl
        | some p =>
          have hb := hs.b
          obtain ⟨b, hp, hb, hbr⟩ := sqAt_get e
          have h4 := HI.out.2.2 r b (Nat.le_refl _) hb hbr
          have := Nat.mul_le_mul h4 h4
          omega))
      have HI' := hide (show L = sqs n (r + 1) ∧ N = L.length ∧ ∀ a b : Nat, r + 1 ≤ a → a * a + b * b = n → b ≤ a → b ≤ m from ⟨by rw [HN.out]; exact HI.out.1, HI.out.2.1, fun a b ha => HI.out.2.2 a b (by omega)⟩)
      have hr65 : r ≤ 65535 := by
        rcases Nat.lt_or_ge r 65536 with h | h
        · omega
        · have := Nat.mul_le_mul h h; omega
      clear HI HN
      generalize r * r = q1 at *
      generalize m * m = q2 at *
      have h5 : ((q1 : Int) + (q2 : Int) < (n : Int)) = True := by simp; omega
      refine wp_block ?_
      refine wp_seq_k ?_
      intro K10 hK10
      refine rg [0, 1, 2, 3, 4, 5, 6, 7] ?_
      refine sq ?_
      refine .mv ?_
      refine sq ?_
      refine .mv ?_
      refine sq ?_
      refine .r0 ?_
      refine sq ?_
      refine .mv ?_
      refine sq ?_
      refine .mv ?_
      refine sq ?_
      refine .r0 ?_
      refine sq ?_
      refine .r0 ?_
      refine sq ?_
      refine .mv ?_
      apply wpSq_end
      refine hK10 _ _ ?_
      refine wp_block ?_
      refine wp_seq_k ?_
      intro K11 hK11
      refine rg [0, 1, 2, 3] ?_
      refine sq ?_
      refine .mv ?_
      refine sq ?_
      refine .mv ?_
      refine sq ?_
      refine .r0 ?_
      refine sq ?_
      refine .mv ?_
      apply wpSq_end
      refine hK11 _ _ ?_
      refine ct ?_
      refine rg [0, 1, 2] ?_
      refine sq ?_
      refine .mv ?_
      refine sq ?_
      refine .r0 ?_
      refine sq ?_
      refine .mv ?_
      apply wpSq_end
      refine ‹∀ (a' : Act) (w' : World), Handed _ _ a' w' → _› _ _ ?_
      go_roundg (gk - 1)
      case rel => exact ⟨r + 1, m, N, o, c, xs, L, by rfl, by rfl, by rfl, by omega, by omega, by omega, by omega, HI', d, hs⟩
      case measure => omega
    · by_cases h4 : r * r + m * m = n
      · have HA := hide (sqAt_of h4 hmr)
        have HI' := hide (show L ++ [((r : Int), (m : Int))] = sqs n (r + 1) ∧ N + 1 = (L ++ [((r : Int), (m : Int))]).length ∧ ∀ a b : Nat, r + 1 ≤ a → a * a + b * b = n → b ≤ a → b ≤ m from ⟨by rw [sqs_some HA.out, HI.out.1], by rw [List.length_append, HI.out.2.1]; rfl, fun a b ha => HI.out.2.2 a b (by omega)⟩)
        have hr65 : r ≤ 65536 := hr
        have hr66 : r + 1 ≤ 65536 := by
          rcases Nat.lt_or_ge r 65536 with h | h
          · exact h
          · have := Nat.mul_le_mul h h; omega
        clear HI HA
        generalize r * r = q1 at *
        generalize m * m = q2 at *
        have h5 : ((q1 : Int) + (q2 : Int) < (n : Int)) = False := by simp; omega
        have h6 : ((q1 : Int) + (q2 : Int) == (n : Int)) = true := by simp; omega
        refine wp_block ?_
        refine wp_seq_k ?_
        intro K10 hK10
        refine rg [0, 1, 2, 3, 4, 5, 6, 7] ?_
        refine sq ?_
        refine .mv ?_
        refine sq ?_
        refine .mv ?_
        refine sq ?_
        refine .r0 ?_
        refine sq ?_
        refine .mv ?_
        refine sq ?_
        refine .mv ?_
        refine sq ?_
        refine .r0 ?_
        refine sq ?_
        refine .r0 ?_
        refine sq ?_
        refine .mv ?_
        apply wpSq_end
        refine hK10 _ _ ?_
        refine wp_block ?_
        refine wp_seq_k ?_
        intro K11 hK11
        refine rg [0, 1, 2, 3] ?_
        refine sq ?_
        refine .mv ?_
        refine sq ?_
        refine .mv ?_
        refine sq ?_
        refine .r0 ?_
        refine sq ?_
        refine .mv ?_
        apply wpSq_end
        refine hK11 _ _ ?_
        refine cf ?_
        refine wp_seq_k ?_
        intro K12 hK12
        refine rg [0, 1, 2, 3] ?_
        refine sq ?_
        refine .mv ?_
        refine sq ?_
        refine .mv ?_
        refine sq ?_
        refine .r0 ?_
        refine sq ?_
        refine .mv ?_
        apply wpSq_end
        refine hK12 _ _ ?_
        refine ct ?_
        refine wp_seq_k ?_
        intro K13 hK13
        refine rg [0, 1, 2, 3, 4, 5, 6, 7, 8] ?_
        refine sq ?_
        refine .mv ?_
        refine sq ?_
        refine .mv ?_
        refine sq ?_
        refine .r0 ?_
        refine sq ?_
        refine .mv ?_
        refine sq ?_
        refine .r0 ?_
        refine sq ?_
        intro K hK
        go_big_op
        go_fit (gFrom_any (r : Int) (m : Int) _ (by omega) (by omega) (by omega) (by omega))
        rintro e w_3 ⟨_, rfl, ⟨n_ea, o_ea, k_ea, c_ea, n_eb, o_eb, k_eb, c_eb, rfl, e1, e2⟩, hb_3⟩
        replace hs := hs.bl hb_3
        refine hK _ _ rfl trivial ?_
        clear hK K
        refine sq ?_
        refine .al hs ?_; clear hs; intro p_b1 w_4 hs n4 kb_b1
        refine sq ?_
        have k1_2 := kb n4
        replace e1 := e1.k k1_2
        replace e2 := e2.k k1_2
        have k0_2 := (kb hb_3).b n4
        replace d := d.k k0_2
        replace d := d.snoc (.mk' e1 e2)
        refine .ap 1 hs hs.g0 ?_; clear hs; intro o_L_5 c_L_5 w_5 hs kp5 hw5; simp only [List.set_cons_succ, List.set_cons_zero] at hs
        refine sq ?_
        refine .mv ?_
        apply wpSq_end
        refine hK13 _ _ ?_
        refine rg [0, 1, 2] ?_
        refine sq ?_
        refine .mv ?_
        refine sq ?_
        refine .r0 ?_
        refine sq ?_
        refine .mv ?_
        apply wpSq_end
        have k2_3 := kp5
        replace d := d.k k2_3
        refine ‹∀ (a' : Act) (w' : World), Handed _ _ a' w' → _› _ _ ?_
        go_roundg (gk - 1)
        case rel => exact ⟨r + 1, m, N + 1, _, _, _, _, by rfl, by rfl, by rfl, by omega, by omega, by omega, by omega, HI', d, hs.sub (.cons _ (.cons_cons _ .slnil))⟩
        case measure => omega
      · have hlt : n < r * r + m * m := by omega
        by_cases h0 : 0 < m
        · have HI' := hide (show L = sqs n r ∧ N = L.length ∧ ∀ a b : Nat, r ≤ a → a * a + b * b = n → b ≤ a → b ≤ m - 1 from ⟨HI.out.1, HI.out.2.1, fun a b ha hab hba => by
            have h7 := HI.out.2.2 a b ha hab hba
            rcases Nat.lt_or_ge b m with h8 | h8
            · omega
            · obtain rfl : b = m := by omega
              have := Nat.mul_le_mul ha ha
              omega⟩)
          clear HI
          generalize r * r = q1 at *
          generalize m * m = q2 at *
          have h5 : ((q1 : Int) + (q2 : Int) < (n : Int)) = False := by simp; omega
          have h6 : ((q1 : Int) + (q2 : Int) == (n : Int)) = false := by simp; omega
          have h7 : ((0 : Int) < (m : Int)) = True := by simp; omega
          refine wp_block ?_
          refine wp_seq_k ?_
          intro K10 hK10
          refine rg [0, 1, 2, 3, 4, 5, 6, 7] ?_
          refine sq ?_
          refine .mv ?_
          refine sq ?_
          refine .mv ?_
          refine sq ?_
          refine .r0 ?_
          refine sq ?_
          refine .mv ?_
          refine sq ?_
          refine .mv ?_
          refine sq ?_
          refine .r0 ?_
          refine sq ?_
          refine .r0 ?_
          refine sq ?_
          refine .mv ?_
          apply wpSq_end
          refine hK10 _ _ ?_
          refine wp_block ?_
          refine wp_seq_k ?_
          intro K11 hK11
          refine rg [0, 1, 2, 3] ?_
          refine sq ?_
          refine .mv ?_
          refine sq ?_
          refine .mv ?_
          refine sq ?_
          refine .r0 ?_
          refine sq ?_
          refine .mv ?_
          apply wpSq_end
          refine hK11 _ _ ?_
          refine cf ?_
          refine wp_seq_k ?_
          intro K12 hK12
          refine rg [0, 1, 2, 3] ?_
          refine sq ?_
          refine .mv ?_
          refine sq ?_
          refine .mv ?_
          refine sq ?_
          refine .r0 ?_
          refine sq ?_
          refine .mv ?_
          apply wpSq_end
          refine hK12 _ _ ?_
          refine cf ?_
          refine wp_seq_k ?_
          intro K13 hK13
          refine rg [0, 1, 2] ?_
          refine sq ?_
          refine .mv ?_
          refine sq ?_
          refine .r0 ?_
          refine sq ?_
          refine .mv ?_
          apply wpSq_end
          refine hK13 _ _ ?_
          refine ct ?_
          refine rg [0, 1, 2] ?_
          refine sq ?_
          refine .mv ?_
          refine sq ?_
          refine .r0 ?_
          refine sq ?_
          refine .mv ?_
          apply wpSq_end
          refine ‹∀ (a' : Act) (w' : World), Handed _ _ a' w' → _› _ _ ?_
          go_roundg (gk - 1)
          case rel => exact ⟨r, m - 1, N, o, c, xs, L, by rfl, by go_num, by rfl, by omega, by omega, by omega, by omega, HI', d, hs⟩
          case measure => omega
        · obtain rfl : m = 0 := by omega
          have HE := hide (show sqs n r = sqAll n from sqs_all (by omega))
          have HI' := hide (show L = sqAll n ∧ N = L.length from ⟨HI.out.1.trans HE.out, HI.out.2.1⟩)
          clear HI HE
          generalize r * r = q1 at *
          have h5 : ((q1 : Int) < (n : Int)) = False := by simp; omega
          have h6 : ((q1 : Int) == (n : Int)) = false := by simp; omega
          refine wp_block ?_
          refine wp_seq_k ?_
          intro K10 hK10
          refine rg [0, 1, 2, 3, 4, 5, 6, 7] ?_
          refine sq ?_
          refine .mv ?_
          refine sq ?_
          refine .mv ?_
          refine sq ?_
          refine .r0 ?_
          refine sq ?_
          refine .mv ?_
          refine sq ?_
          refine .mv ?_
          refine sq ?_
          refine .r0 ?_
          refine sq ?_
          refine .r0 ?_
          refine sq ?_
          refine .mv ?_
          apply wpSq_end
          refine hK10 _ _ ?_
          refine wp_block ?_
          refine wp_seq_k ?_
          intro K11 hK11
          refine rg [0, 1, 2, 3] ?_
          refine sq ?_
          refine .mv ?_
          refine sq ?_
          refine .mv ?_
          refine sq ?_
          refine .r0 ?_
          refine sq ?_
          refine .mv ?_
          apply wpSq_end
          refine hK11 _ _ ?_
          refine cf ?_
          refine wp_seq_k ?_
          intro K12 hK12
          refine rg [0, 1, 2, 3] ?_
          refine sq ?_
          refine .mv ?_
          refine sq ?_
          refine .mv ?_
          refine sq ?_
          refine .r0 ?_
          refine sq ?_
          refine .mv ?_
          apply wpSq_end
          refine hK12 _ _ ?_
          refine cf ?_
          refine wp_seq_k ?_
          intro K13 hK13
          refine rg [0, 1, 2] ?_
          refine sq ?_
          refine .mv ?_
          refine sq ?_
          refine .r0 ?_
          refine sq ?_
          refine .mv ?_
          apply wpSq_end
          refine hK13 _ _ ?_
          refine cf ?_
          refine wp_exit ?_
          refine hK9 _ _ ?_
          refine wp_seq_k ?_
          intro K14 hK14
          refine rg [0, 1] ?_
          refine sq ?_
          refine .mv ?_
          refine sq ?_
          refine .mv ?_
          apply wpSq_end
          refine hK14 _ _ ?_
          refine wp_ret ?_
          refine hSr _ _ _ ?_
          try dsimp only [Exit.then, Exit.inBlock]
          refine bodyPost_ret (v := (.slice o N c)) (by simp [results, Try.results49, go_sem]) rfl ?_
          obtain ⟨rfl, rfl⟩ := HI'.out; exact ⟨_, _, _, rfl, hs.1.1.1, d, hs.b⟩
end
end Go.Proofs.Ytbiiglcfdphmaaa


/- gprime.IsPrime; the reference's IsPrime. -/
namespace Go.Proofs.Ytbiiglcfdphmaaa
open Go Go.RowKit Dig
set_option linter.unusedVariables false

/-- Numbers of this norm are primes. -/
def PrimeN (n : Nat) : Prop := 2 ≤ n ∧ ∀ p, IsLf n p → p = n ∨ (p % 4 = 3 ∧ p * p = n)
open Classical in
noncomputable def primeB (n : Nat) : Bool := decide (PrimeN n)
open Classical in
theorem primeB_low {n : Nat} (h : n < 2) : primeB n = false := decide_eq_false fun hc => by have := hc.1; omega
open Classical in
theorem primeB_eq {n p : Nat} (hp : IsLf n p) (h2 : 2 ≤ n) : primeB n = decide (p = n ∨ (p % 4 = 3 ∧ p * p = n)) := by
  unfold primeB
  rw [decide_eq_decide]
  exact ⟨fun h => h.2 p hp, fun h => ⟨h2, fun q hq => by rw [hq.uniq hp]; exact h⟩⟩
section
variable {w : World} {va : Value} {x y z : Int} {l m : Nat}
theorem inop (n : Nat) (hn : n < 4294967296) :
    Calls Try.prog 36 #[.int .u64 (n : Int)] w fun e w' => e = .returned (.bool (primeB n)) ∧ Below w.heap.size w w' := by
  rcases Nat.lt_or_ge n 2 with h | h
  · rw [primeB_low h]; exact inop_low n h
  · obtain ⟨p, hp⟩ := lf_ex h
    rw [primeB_eq hp h]
    exact inop_any hp h hn
set_option maxHeartbeats 4000000 in
set_option maxRecDepth 20000 in
theorem gprime_any (N : Nat) (ha : PN w va x l y m) (hl : l ≤ 20000000) (hm : m ≤ 20000000) (hn : gN x y = (N : Int)) (hN : N < 4294967296) :
    Calls Try.prog 9 #[va] w fun e w' => e = .returned (.tuple #[.bool (primeB N), .int .i64 0]) ∧ Below w.heap.size w w' := by
  have HN := hide hn
  have HP := hide (fun w => inop (w := w) N hN)
  clear hn
  obtain ⟨n_0a, o_0a, k_0a, c_0a, n_0b, o_0b, k_0b, c_0b, rfl, ha1, ha2⟩ := ha
  go_enter Try.func9, Try.ntmps9
  have hs := St.nil w
  refine wp_seq_k ?_
  intro K1 hK1
  refine rg [0, 1, 2] ?_
  refine sq ?_
  refine .al hs ?_; clear hs; intro p_b1 w_1 hs n1 kb_b1
  refine sq ?_
  refine .mv ?_
  refine sq ?_
  refine .mv ?_
  apply wpSq_end
  refine hK1 _ _ ?_
  refine wp_seq_k ?_
  intro K2 hK2
  refine rg [0, 1, 2, 3, 4, 5, 6] ?_
  refine sq ?_
  refine .r4 hs.g0.f4 ?_
  refine sq ?_
  intro K hK
  have k0_1 := kb n1
  replace ha1 := ha1.k k0_1
  replace ha2 := ha2.k k0_1
  go_big_op
  go_fit (normOf_any N (PN.mk' ha1 ha2) (by omega) (by omega) HN.out hN)
  rintro e w_2 ⟨rfl, hb_2⟩
  replace hs := hs.bl hb_2
  refine hK _ _ rfl trivial ?_
  clear hK K
  refine sq ?_
  refine .mv ?_
  refine sq ?_
  refine .r0 ?_
  refine sq ?_
  refine .r0 ?_
  refine sq ?_
  refine .mv ?_
  refine sq ?_
  refine .mv ?_
  apply wpSq_end
  refine hK2 _ _ ?_
  refine wp_seq_k ?_
  intro K3 hK3
  refine wp_seq_k ?_
  intro K4 hK4
  refine rg [0, 1] ?_
  refine sq ?_
  refine .mv ?_
  refine sq ?_
  refine .r0 ?_
  apply wpSq_end
  refine hK4 _ _ ?_
  refine cf ?_
  refine wp_skip ?_
  refine hK3 _ _ ?_
  refine wp_seq_k ?_
  intro K5 hK5
  refine rg [0, 1, 2, 3] ?_
  refine sq ?_
  refine .mv ?_
  refine sq ?_
  intro K hK
  go_big_op
  go_fit (HP.out _)
  rintro e w_3 ⟨rfl, hb_3⟩
  replace hs := hs.bl hb_3
  refine hK _ _ rfl trivial ?_
  clear hK K
  refine sq ?_
  refine .mv ?_
  refine sq ?_
  refine .mv ?_
  apply wpSq_end
  refine hK5 _ _ ?_
  refine wp_ret ?_
  try dsimp only [Exit.then, Exit.inBlock]
  refine bodyPost_ret (v := (.tuple #[(.bool (primeB N)), (.int .i64 0)])) (by simp [results, Try.results9, go_sem]) rfl ?_
  exact ⟨rfl, hs.b⟩
end
end Go.Proofs.Ytbiiglcfdphmaaa


/- The law's g, is, awake (gprime). -/
namespace Go.Proofs.Ytbiiglcfdphmaaa
open Go Go.RowKit Dig
set_option linter.unusedVariables false

theorem lf9 : IsLf 9 3 := lf_div (by decide) (by decide) (fun e h1 h2 hc => by obtain rfl : e = 2 := (by omega); revert hc; decide)
theorem lf25 : IsLf 25 5 := lf_div (by decide) (by decide) (fun e h1 h2 hc => by
  have : e = 2 ∨ e = 3 ∨ e = 4 := by omega
  rcases this with rfl | rfl | rfl <;> revert hc <;> decide)
theorem prime9 : primeB 9 = true := by rw [primeB_eq lf9 (by decide)]; decide
theorem prime25 : primeB 25 = false := by rw [primeB_eq lf25 (by decide)]; decide
theorem zlen_small6 {z : Int} (h : z.natAbs < 4294967296) : (dig z.natAbs).length ≤ 1 := dig_length_le (by rw [show pw 1 = 4294967296 from rfl]; exact h)
set_option maxHeartbeats 4000000 in
set_option maxRecDepth 20000 in
theorem g6_any (a b : Int) (w : World) (h1 : -9223372036854775808 ≤ a) (h2 : a ≤ 9223372036854775807) (h3 : -9223372036854775808 ≤ b) (h4 : b ≤ 9223372036854775807) :
    Calls Try.prog 10 #[.int .i64 a, .int .i64 b] w fun e w' => ∃ r, e = .returned r ∧ PC w' r a b ∧ Below w.heap.size w w' := by
  go_enter Try.func10, Try.ntmps10
  have hs := St.nil w
  refine wp_seq_k ?_
  intro K1 hK1
  refine rg [0] ?_
  refine sq ?_
  refine .al hs ?_; clear hs; intro p_b1 w_1 hs n1 kb_b1
  apply wpSq_end
  refine hK1 _ _ ?_
  refine wp_seq_k ?_
  intro K2 hK2
  refine rg [0, 1, 2, 3] ?_
  refine sq ?_
  refine .mv ?_
  refine sq ?_
  refine .mv ?_
  refine sq ?_
  intro K hK
  go_big_op
  go_fit (rgI_any a b _ h1 h2 h3 h4)
  rintro e w_2 ⟨_, rfl, ⟨n_ra, o_ra, k_ra, c_ra, n_rb, o_rb, k_rb, c_rb, rfl, r1, r2⟩, hb_2⟩
  replace hs := hs.bl hb_2
  refine hK _ _ rfl trivial ?_
  clear hK K
  refine sq ?_
  refine .s4 hs.g0 (fun _ => hs.u0 kb_b1) ?_; clear hs; intro w_3 hs hd3 ho3
  apply wpSq_end
  refine hK2 _ _ ?_
  refine wp_ret ?_
  try dsimp only [Exit.then, Exit.inBlock]
  obtain ⟨r0_0, r0_1, r0_2, r0_3⟩ := hs.g0.f4
  refine bodyPost_ret (v := (.agg #[.bool n_ra, .slice o_ra k_ra c_ra, .bool n_rb, .slice o_rb k_rb c_rb])) (by simp [results, Try.results10, go_sem, r0_0, r0_1, r0_2, r0_3]) rfl ?_
  have k2_3 := ko hd3 ho3
  replace r1 := r1.k k2_3
  replace r2 := r2.k k2_3
  exact ⟨_, rfl, .mk' r1 r2, hs.b⟩
set_option maxHeartbeats 4000000 in
set_option maxRecDepth 20000 in
theorem awake6_any (w : World) :
    Calls Try.prog 11 #[] w fun e w' => e = .returned (.bool true) ∧ Below w.heap.size w w' := by
  have E1 := hide prime9
  have E2 := hide prime25
  go_enter Try.func11, Try.ntmps11
  have hs := St.nil w
  refine wp_seq_k ?_
  intro K1 hK1
  refine rg [0] ?_
  refine sq ?_
  refine .mv ?_
  apply wpSq_end
  refine hK1 _ _ ?_
  refine wp_seq_k ?_
  intro K2 hK2
  refine rg [0, 1, 2, 3, 4, 5, 6] ?_
  refine sq ?_
  intro K hK
  go_big_op
  go_fit (g6_any 3 0 _ (by decide) (by decide) (by decide) (by decide))
  rintro e w_1 ⟨_, rfl, ⟨n_aa, o_aa, k_aa, c_aa, n_ab, o_ab, k_ab, c_ab, rfl, a1, a2⟩, hb_1⟩
  replace hs := hs.bl hb_1
  have La1 := hide (a1.lenOf (zlen_small6 (z := 3) (by decide)))
  have La2 := hide (a2.lenOf (zlen_small6 (z := 0) (by decide)))
  refine hK _ _ rfl trivial ?_
  clear hK K
  refine sq ?_
  intro K hK
  go_big_op
  go_fit (gprime_any 9 (.mk' (a1.zn La1.out) (a2.zn La2.out)) (by omega) (by omega) (by decide) (by decide))
  rintro e w_2 ⟨rfl, hb_2⟩
  replace hs := hs.bl hb_2
  rw [E1.out]
  refine hK _ _ rfl trivial ?_
  clear hK K
  refine sq ?_
  refine .mv ?_
  refine sq ?_
  refine .r0 ?_
  refine sq ?_
  refine .r0 ?_
  refine sq ?_
  refine .mv ?_
  refine sq ?_
  refine .mv ?_
  apply wpSq_end
  refine hK2 _ _ ?_
  refine wp_seq_k ?_
  intro K3 hK3
  refine rg [0, 1, 2, 3, 4, 5, 6] ?_
  refine sq ?_
  intro K hK
  go_big_op
  go_fit (g6_any 5 0 _ (by decide) (by decide) (by decide) (by decide))
  rintro e w_3 ⟨_, rfl, ⟨n_ba, o_ba, k_ba, c_ba, n_bb, o_bb, k_bb, c_bb, rfl, b1, b2⟩, hb_3⟩
  replace hs := hs.bl hb_3
  have Lb1 := hide (b1.lenOf (zlen_small6 (z := 5) (by decide)))
  have Lb2 := hide (b2.lenOf (zlen_small6 (z := 0) (by decide)))
  refine hK _ _ rfl trivial ?_
  clear hK K
  refine sq ?_
  intro K hK
  go_big_op
  go_fit (gprime_any 25 (.mk' (b1.zn Lb1.out) (b2.zn Lb2.out)) (by omega) (by omega) (by decide) (by decide))
  rintro e w_4 ⟨rfl, hb_4⟩
  replace hs := hs.bl hb_4
  rw [E2.out]
  refine hK _ _ rfl trivial ?_
  clear hK K
  refine sq ?_
  refine .mv ?_
  refine sq ?_
  refine .r0 ?_
  refine sq ?_
  refine .r0 ?_
  refine sq ?_
  refine .mv ?_
  refine sq ?_
  refine .mv ?_
  apply wpSq_end
  refine hK3 _ _ ?_
  refine wp_seq_k ?_
  intro K4 hK4
  refine rg [0, 1, 2, 3, 4, 5, 6, 7, 8, 9, 10, 11, 12, 13] ?_
  refine sq ?_
  refine .mv ?_
  refine sq ?_
  refine .mv ?_
  refine sq ?_
  refine .mv ?_
  refine sq ?_
  refine .r0 ?_
  refine sq ?_
  refine .r0 ?_
  refine sq ?_
  refine .mv ?_
  refine sq ?_
  refine .mv ?_
  refine sq ?_
  refine .r0 ?_
  refine sq ?_
  refine .r0 ?_
  refine sq ?_
  refine .mv ?_
  refine sq ?_
  refine .mv ?_
  refine sq ?_
  refine .r0 ?_
  refine sq ?_
  refine .r0 ?_
  refine sq ?_
  refine .mv ?_
  apply wpSq_end
  refine hK4 _ _ ?_
  refine wp_ret ?_
  try dsimp only [Exit.then, Exit.inBlock]
  refine bodyPost_ret (v := (.bool true)) (by simp [results, Try.results11, go_sem]) rfl ?_
  exact ⟨rfl, hs.b⟩
end Go.Proofs.Ytbiiglcfdphmaaa

