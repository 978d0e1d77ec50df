/- The factors multiplied back. -/
import Derived.Test.YthlhekkcjficdaaGreatK13ToK18
import Derived.Test.YthlhekkcjficdaaGreatDrToJ2
import Derived.Shelf.SlLaysF0
import Derived.Ground.SlsfProg
import Derived.Test.YthlhekkcjficdaaGreatW6ToP10

namespace Go.Proofs.YthlhekkcjficdaaGreat
open Go Go.RowKit Dig
set_option linter.unusedVariables false
theorem sq_le_one {a : Int} (h : a * a ≤ 1) : a = -1 ∨ a = 0 ∨ a = 1 := by
  rcases Int.lt_or_le a (-1) with h1 | h1
  · have := Int.mul_le_mul (show 2 ≤ -a by omega) (show 2 ≤ -a by omega) (by decide) (by omega)
    rw [Int.neg_mul_neg] at this
    omega
  · rcases Int.lt_or_le 1 a with h2 | h2
    · have := Int.mul_le_mul (show 2 ≤ a by omega) (show 2 ≤ a by omega) (by decide) (by omega)
      omega
    · omega
theorem unit_turn {U V : Int} (h : gN U V = 1) : turn ((-((kq U V : Nat) : Int)) % 4).toNat (1, 0) = (U, V) := by
  unfold gN at h
  have h1 := mul_self_nonneg' U
  have h2 := mul_self_nonneg' V
  rcases sq_le_one (a := U) (by omega) with rfl | rfl | rfl <;> rcases sq_le_one (a := V) (by omega) with rfl | rfl | rfl <;> first | (exfalso; revert h; decide) | rfl
/-- All factors and the unit: the number. -/
theorem back_prod {x y : Int} {N0 : Nat} {L0 : List Nat} {T : List (Int × Int × Int)} {U V : Int} (hn : gN x y = (N0 : Int)) (h0 : N0 ≠ 0) (hL : PF N0 L0) (hT : (L0.flatMap pOv).foldl fcS ([], (x, y)) = (T, (U, V))) {ps : List (Int × Int × Int)} (hp : ps.Perm T) :
    gP (turn ((-((kq U V : Nat) : Int)) % 4).toNat (1, 0)) (gPs ps) = (x, y) := by
  have hQ : ∀ q ∈ L0.flatMap pOv, 2 ≤ gN q.1 q.2 := fun q hq => by
    obtain ⟨p, hp, hq⟩ := List.mem_flatMap.1 hq
    exact pOv_norm (hL.mem p hp).1 hq
  have h1 := fc_prod _ hQ [] x y (by omega)
  rw [hT] at h1
  rw [unit_turn (fc_unit hn h0 hL hT), gPs_perm hp, gP_comm]
  exact h1.trans (gP_one _)
theorem gPs_snoc (ps : List (Int × Int × Int)) (t : Int × Int × Int) : gPs (ps ++ [t]) = gP (gPs ps) (gPw (t.1, t.2.1) t.2.2.toNat) := by
  unfold gPs
  rw [List.foldl_append]
  rfl
theorem gPs_app (ps qs : List (Int × Int × Int)) : gPs (ps ++ qs) = gP (gPs ps) (gPs qs) := by
  induction qs generalizing ps with
  | nil => rw [List.append_nil, gP_comm]; exact (gP_one _).symm
  | cons t qs ih =>
    rw [show ps ++ t :: qs = (ps ++ [t]) ++ qs by simp, ih, gPs_snoc, gP_assoc]
    have e := ih ([] ++ [t])
    rw [gPs_snoc, List.nil_append] at e
    rw [show t :: qs = [t] ++ qs from rfl, e, show gPs [] = (1, 0) from rfl, gP_one]
end Go.Proofs.YthlhekkcjficdaaGreat


/- A list of factors in memory, and what a sort leaves of it. -/
namespace Go.Proofs.YthlhekkcjficdaaGreat
open Go Go.RowKit Dig
set_option linter.unusedVariables false

theorem flat_get {α : Type} (f : α → List Value) (k : Nat) (hk : ∀ x, (f x).length = k) : ∀ (l : List α) (i r : Nat) (hi : i < l.length), r < k → (l.flatMap f)[i * k + r]? = (f l[i])[r]?
  | [], i, r, hi, _ => absurd hi (Nat.not_lt_zero _)
  | x :: l, 0, r, hi, hr => by
    rw [List.flatMap_cons, List.getElem?_append_left (by rw [hk]; omega), Nat.zero_mul, Nat.zero_add]
    rfl
  | x :: l, i + 1, r, hi, hr => by
    rw [List.flatMap_cons, List.getElem?_append_right (by rw [hk, Nat.add_mul]; omega), hk, show (i + 1) * k + r - k = i * k + r by rw [Nat.add_mul]; omega]
    exact flat_get f k hk l i r (by simpa using hi) hr
theorem flat_len {α : Type} (f : α → List Value) (k : Nat) (hk : ∀ x, (f x).length = k) : ∀ l : List α, (l.flatMap f).length = l.length * k
  | [] => by simp
  | x :: l => by rw [List.flatMap_cons, List.length_append, hk, flat_len f k hk l, List.length_cons, Nat.add_mul]; omega
theorem flatK_eq {α : Type} [Inhabited α] (f : α → List Value) (k : Nat) (h0 : 0 < k) (hk : ∀ x, (f x).length = k) (d : Array α) : Sort.flatK f k d = (d.toList.flatMap f).toArray := by
  apply Array.ext
  · rw [Sort.size_flatK]
    show d.size * k = (d.toList.flatMap f).length
    rw [flat_len f k hk]; rfl
  · intro j h1 h2
    rw [Sort.size_flatK] at h1
    have hd : j / k < d.size := Nat.div_lt_of_lt_mul (by rw [Nat.mul_comm]; exact h1)
    have hm : j % k < k := Nat.mod_lt _ h0
    have e1 := Sort.get_flatK f k d j h1
    rw [getElem!_pos _ _ (by rw [Sort.size_flatK]; exact h1)] at e1
    rw [e1, getElem!_pos d _ hd, getElem!_pos _ _ (by rw [hk]; exact hm)]
    have e2 := flat_get f k hk d.toList (j / k) (j % k) (by simpa using hd) hm
    rw [show j / k * k + j % k = j by rw [Nat.mul_comm]; exact Nat.div_add_mod j k] at e2
    rw [List.getElem?_eq_getElem (by simpa using h2), List.getElem?_eq_getElem (by rw [hk]; exact hm)] at e2
    injection e2 with e2
    show _ = (d.toList.flatMap f)[j]'(by simpa using h2)
    rw [e2]
    rfl
theorem flat_map {α β : Type} (f : α → β) (g : β → List Value) (l : List α) : (l.map f).flatMap g = l.flatMap fun x => g (f x) := by
  rw [List.flatMap_map]
/-- What the row holds behind a store of a whole list. -/
theorem put_take {cur : Array Value} {F : Array Value} {n : Nat} (hF : F.size = n) (hn : n ≤ cur.size) : (Sort.putCells id 0 F cur).toList.take n = F.toList := by
  apply List.ext_getElem?
  intro i
  by_cases hi : i < n
  · rw [List.getElem?_take_of_lt hi]
    have e : (Sort.putCells id 0 F cur)[i]? = F[i]? := by
      unfold Sort.putCells
      rw [Array.getElem?_mapIdx, Array.getElem?_eq_getElem (show i < cur.size by omega), Option.map_some, if_pos ⟨Nat.zero_le _, by omega⟩, Nat.sub_zero, getElem!_pos F i (by omega), Array.getElem?_eq_getElem (show i < F.size by omega)]
      rfl
    simpa using e
  · rw [List.getElem?_eq_none (by rw [List.length_take]; omega), List.getElem?_eq_none (by simp; omega)]
theorem put_nd {cur F : Array Value} (hc : cur.toList.all nd = true) (hF : F.toList.all nd = true) : (Sort.putCells id 0 F cur).toList.all nd = true := by
  simp only [List.all_eq_true] at *
  intro x hx
  unfold Sort.putCells at hx
  rw [Array.mem_toList_iff, Array.mem_mapIdx] at hx
  obtain ⟨i, hi, rfl⟩ := hx
  split
  · rename_i h
    rw [getElem!_pos F _ (by omega)]
    exact hF _ (by simp)
  · exact hc _ (by simp)
theorem Pws.flat {w : World} (d : List (Pws w)) : d.flatMap Pws.enc = (d.map (·.1)).flatMap Pw.cells := (flat_map (fun p : Pws w => p.1) Pw.cells d).symm
theorem Pw.nds (l : List Pw) : (l.flatMap Pw.cells).all nd = true := by
  rw [List.all_eq_true]
  intro x hx
  rw [List.mem_flatMap] at hx
  obtain ⟨p, _, hx⟩ := hx
  simp only [Pw.cells, List.mem_cons, List.not_mem_nil, or_false] at hx
  rcases hx with rfl | rfl | rfl | rfl | rfl <;> rfl
section
variable {w : World} {B ty g c n : Nat} {ps : List Pw}
/-- The list as an array that the sort's laws speak of. -/
def Pws.arr (ps : List Pw) (hok : ∀ p ∈ ps, p.ok w) : Array (Pws w) := (ps.attachWith (Pw.ok w) hok).toArray
theorem Pws.arr_map (hok : ∀ p ∈ ps, p.ok w) : (Pws.arr ps hok).toList.map (·.1) = ps := by
  unfold Pws.arr
  simp
theorem Pws.arr_size (hok : ∀ p ∈ ps, p.ok w) : (Pws.arr ps hok).size = ps.length := by
  unfold Pws.arr
  simp
theorem fac_holds {o : Option Addr} (h : Lst w B ty 5 (.slice o n c) n (ps.flatMap Pw.cells)) (hok : ∀ p ∈ ps, p.ok w) (hg : o = some ⟨g, 0, none⟩) :
    Sort.HoldsK Pws.enc 5 w g 0 (Pws.arr ps hok) := by
  subst hg
  intro j hj
  rw [Sort.size_flatK, Pws.arr_size] at hj
  have e : Sort.flatK Pws.enc 5 (Pws.arr ps hok) = (ps.flatMap Pw.cells).toArray := by
    rw [flatK_eq _ 5 (by omega) Pws.len, Pws.flat, Pws.arr_map]
  have hl : j < (ps.flatMap Pw.cells).length := by rw [flat_len _ 5 (fun _ => rfl)]; exact hj
  rw [e, getElem!_pos _ j (by simpa using hl), List.getElem_toArray]
  obtain ⟨g', e1, hc⟩ := h.cell (List.getElem?_eq_getElem hl)
  injection e1 with e1
  obtain rfl : g = g' := congrArg Addr.block e1
  rw [Nat.zero_add]
  refine ⟨hc, ?_⟩
  rcases h.1.2 with ⟨e2, _⟩ | ⟨g2, cap, cur, e2, hb, hh, _⟩
  · cases e2
  · obtain rfl : g = g2 := by simp only [Value.slice.injEq, Option.some.injEq, Addr.mk.injEq, and_true] at e2; exact e2.1
    simp [World.frozen?, hh]
end
end Go.Proofs.YthlhekkcjficdaaGreat


/- A list of factors in memory behind a sort. -/
namespace Go.Proofs.YthlhekkcjficdaaGreat
open Go Go.RowKit Dig
set_option linter.unusedVariables false
section
variable {w w' : World} {B ty g c n m : Nat} {ps : List Pw} {os : Array Obj}
/-- Rising, as gint.Cmp tells. -/
def Ris (qs : List Pw) : Prop := qs.Pairwise fun p q => ¬ gcmp q.x q.y p.x p.y < 0
theorem fac_sorted (h : Lst w B ty 5 (.slice (some ⟨g, 0, none⟩) n c) n (ps.flatMap Pw.cells)) (hok : ∀ p ∈ ps, p.ok w) (hn : ps.length = n) {d' : Array (Pws w)} (hp : Sort.PermIn 0 (Pws.arr ps hok).size (Pws.arr ps hok) d')
    (hs : Sort.SortedIn (ltOf Pws.cf) 0 (Pws.arr ps hok).size d') (hw : w' = sortWorldK Pws.enc 5 w g 0 m d' os) :
    ∃ qs, qs.Perm ps ∧ Ris qs ∧ Lst w' B ty 5 (.slice (some ⟨g, 0, none⟩) n c) n (qs.flatMap Pw.cells) ∧ w.grownBy w' (some g) ∧ ∀ q ∈ qs, q.ok w := by
  have hsz : d'.size = n := by rw [hp.1, Pws.arr_size, hn]
  have hsa : (Pws.arr ps hok).size = n := by rw [Pws.arr_size, hn]
  have hperm : d'.toList.Perm (Pws.arr ps hok).toList := by
    have h3 := hp.2.2
    have e1 : d'.extract 0 (Pws.arr ps hok).size = d' := by rw [← hp.1]; exact Array.extract_size
    have e2 : (Pws.arr ps hok).extract 0 (Pws.arr ps hok).size = Pws.arr ps hok := Array.extract_size
    rw [e1, e2] at h3
    exact h3
  have hflat : Sort.flatK Pws.enc 5 d' = ((d'.toList.map (·.1)).flatMap Pw.cells).toArray := by rw [flatK_eq _ 5 (by omega) Pws.len, Pws.flat]
  have hfs : (Sort.flatK Pws.enc 5 d').size = n * 5 := by rw [Sort.size_flatK, hsz]
  rcases h.1.2 with ⟨e2, _⟩ | ⟨g2, cap, cur, e2, hb, hh, hnc, hcm, hcs, htake⟩
  · cases e2
  obtain ⟨rfl, rfl⟩ : g = g2 ∧ c = cap := by simp only [Value.slice.injEq, Option.some.injEq, Addr.mk.injEq, and_true, true_and] at e2; exact e2
  have hgl : g < w.heap.size := by
    rcases Nat.lt_or_ge g w.heap.size with hl | hl
    · exact hl
    · rw [Array.getElem?_eq_none hl] at hh; cases hh
  have hblk : w'.heap[g]? = some (.cells (Sort.putCells id 0 (Sort.flatK Pws.enc 5 d') cur) ty (0, 0)) := by
    rw [hw]
    show ((w.heap.modify g _) ++ os)[g]? = _
    rw [Array.getElem?_append_left (by simpa using hgl), Array.getElem?_modify, if_pos rfl, hh]
    rfl
  have hput : (Sort.putCells id 0 (Sort.flatK Pws.enc 5 d') cur).size = cur.size := by simp [Sort.putCells]
  have hfn : n * 5 ≤ c * 5 := Nat.mul_le_mul_right 5 hnc
  refine ⟨d'.toList.map (·.1), ?_, ?_, ⟨⟨?_, .inr ⟨g, c, _, rfl, hb, hblk, hnc, hcm, hput.trans hcs, ?_⟩⟩, ?_⟩, ?_, ?_⟩
  · have := hperm.map (·.1)
    rw [Pws.arr_map] at this
    exact this
  · unfold Ris
    rw [List.pairwise_map, List.pairwise_iff_getElem]
    intro i j hi hj hij
    have := hs i j (Nat.zero_le _) hij (by rw [hsa, ← hsz]; simpa using hj)
    rw [getElem!_pos d' i (by simpa using hi), getElem!_pos d' j (by simpa using hj)] at this
    have h4 := of_decide_eq_false this
    simpa [Pws.cf] using h4
  · rw [flat_len _ 5 (fun _ => rfl)]
    simp [hsz]
  · rw [put_take hfs (by rw [hcs]; exact hfn), hflat]
  · intro k cur2 hk hc
    obtain rfl : g = k := by simpa [Value.ownBlock] using hk
    rw [hblk] at hc
    injection hc with hc
    injection hc with hc
    rw [← hc]
    exact put_nd (h.2 g cur rfl hh) (by rw [hflat]; exact Pw.nds _)
  · rw [hw]
    refine ⟨rfl, rfl, rfl, ?_, fun k hk hne => ?_⟩
    · show _ ≤ ((w.heap.modify g _) ++ os).size
      simp
    · show ((w.heap.modify g _) ++ os)[k]? = _
      rw [Array.getElem?_append_left (by simpa using hk), Array.getElem?_modify, if_neg (fun e => hne (by rw [e]))]
  · intro q hq
    rw [List.mem_map] at hq
    obtain ⟨p, _, rfl⟩ := hq
    exact p.2
end
end Go.Proofs.YthlhekkcjficdaaGreat


/- The factors rise strictly. -/
namespace Go.Proofs.YthlhekkcjficdaaGreat
open Go Go.RowKit Dig
set_option linter.unusedVariables false
theorem ris_strict {qs : List Pw} {T : List (Int × Int × Int)} (hr : Ris qs) (hp : (qs.map Pw.val).Perm T) (hd : (T.map Pr).Nodup) : qs.Pairwise fun p q => gcmp p.x p.y q.x q.y < 0 := by
  have h1 : (qs.map fun q => (q.x, q.y)).Nodup := by
    have h2 := (hp.map Pr).nodup_iff.2 hd
    rw [List.map_map] at h2
    exact h2
  have h3 : qs.Pairwise fun p q => (p.x, p.y) ≠ (q.x, q.y) := by
    have := h1
    rw [List.nodup_iff_pairwise_ne, List.pairwise_map] at this
    exact this
  refine (List.Pairwise.and hr h3).imp fun {p q} h => ?_
  have h4 := h.1
  have h5 : ¬ (p.x = q.x ∧ p.y = q.y) := fun e => h.2 (by rw [e.1, e.2])
  rw [gcmp_lt] at h4 ⊢
  by_cases hx : p.x = q.x
  · by_cases hy : p.y = q.y
    · exact absurd ⟨hx, hy⟩ h5
    · generalize gN p.x p.y = a at *
      generalize gN q.x q.y = b at *
      omega
  · generalize gN p.x p.y = a at *
    generalize gN q.x q.y = b at *
    omega
end Go.Proofs.YthlhekkcjficdaaGreat


/- A list in which each factor stands as often as it is in the number: how the reference makes it. -/
namespace Go.Proofs.YthlhekkcjficdaaGreat
open Go Go.RowKit Dig
set_option linter.unusedVariables false
/-- Each as often as it counts. -/
def expd (ps : List (Int × Int × Int)) : List (Int × Int) := ps.flatMap fun t => List.replicate t.2.2.toNat (Pr t)
/-- One prime is taken out, as the reference does. -/
def rfS (a : List (Int × Int) × (Int × Int)) (q : Int × Int) : List (Int × Int) × (Int × Int) :=
  (a.1 ++ List.replicate (tkF q.1 q.2 a.2.1 a.2.2).1 q, (tkF q.1 q.2 a.2.1 a.2.2).2)
theorem rf_fc (Q : List (Int × Int)) : ∀ (ps : List (Int × Int × Int)) (z : Int × Int), Q.foldl rfS (expd ps, z) = (expd (Q.foldl fcS (ps, z)).1, (Q.foldl fcS (ps, z)).2) := by
  induction Q with
  | nil => intro ps z; rfl
  | cons q Q ih =>
    intro ps z
    rw [List.foldl_cons, List.foldl_cons]
    have e : rfS (expd ps, z) q = (expd (fcS (ps, z) q).1, (fcS (ps, z) q).2) := by
      unfold rfS fcS
      dsimp only
      congr 1
      split
      · unfold expd
        rw [List.flatMap_append, List.flatMap_cons, List.flatMap_nil, List.append_nil]
        rfl
      · rename_i h
        rw [show (tkF q.1 q.2 z.1 z.2).1 = 0 by omega, List.replicate_zero, List.append_nil]
    rw [e]
    exact ih _ _
end Go.Proofs.YthlhekkcjficdaaGreat


/-
  DERIVED: THE SHELF's CONTRACTS AT THIS DUMP, IN PLAIN WORDS (tools/lay-plain.mjs out of 'TryzShelfS.lean', which tools/lay-shelf.mjs wrote): THE SAME DECLARATIONS UNDER THE SAME NAMES: 'import', 'namespace', 'open', 'def', 'theorem' AND NOTHING ELSE: no command of the shelf's: FOR A HAND-IN. Each laying: the table of numbers ('.._ren') and one theorem, a field a fact of the dump's own or the kernel's comparison; each contract: ONE APPLICATION.
-/
namespace Go.Proofs
open Go.Shelf
def Tryz.laysS_ren : Go.Shelf.Ren := ⟨fun | 6 => 15 | 15 => 42 | 14 => 41 | 28 => 77 | 29 => 78 | 20 => 69 | 21 => 70 | 22 => 71 | 23 => 72 | 24 => 73 | 25 => 74 | 26 => 75 | 27 => 76 | 46 => 103 | 47 => 104 | 48 => 105 | 49 => 106 | 50 => 107 | 57 => 118 | n => n, fun | 22 => 27 | 24 => 39 | 25 => 51 | 3 => 3 | 39 => 75 | 0 => 0 | 53 => 82 | 55 => 41 | 4 => 4 | 46 => 96 | 45 => 95 | 50 => 33 | 5 => 5 | 9 => 9 | 66 => 116 | 70 => 120 | 76 => 127 | 77 => 128 | n => n, fun | n => n⟩
theorem Tryz.laysS : Go.Proofs.SlLaysF0.n6 Tryz.prog Tryz.laysS_ren := {
  mixed := by kernel_rfl
  f6 := ⟨Tryz.f15.name, by decide, Tryz.func15.trans (congrArg some (by kernel_rfl))⟩
  f14 := ⟨Tryz.f41.name, by decide, Tryz.func41.trans (congrArg some (by kernel_rfl))⟩
  f15 := Tryz.func42.trans (congrArg some (by kernel_rfl))
  f20 := ⟨Tryz.f69.name, by decide, Tryz.func69.trans (congrArg some (by kernel_rfl))⟩
  f21 := ⟨Tryz.f70.name, by decide, Tryz.func70.trans (congrArg some (by kernel_rfl))⟩
  f22 := ⟨Tryz.f71.name, by decide, Tryz.func71.trans (congrArg some (by kernel_rfl))⟩
  f23 := ⟨Tryz.f72.name, by decide, Tryz.func72.trans (congrArg some (by kernel_rfl))⟩
  f24 := ⟨Tryz.f73.name, by decide, Tryz.func73.trans (congrArg some (by kernel_rfl))⟩
  f25 := ⟨Tryz.f74.name, by decide, Tryz.func74.trans (congrArg some (by kernel_rfl))⟩
  f26 := ⟨Tryz.f75.name, by decide, Tryz.func75.trans (congrArg some (by kernel_rfl))⟩
  f27 := ⟨Tryz.f76.name, by decide, Tryz.func76.trans (congrArg some (by kernel_rfl))⟩
  f28 := Tryz.func77.trans (congrArg some (by kernel_rfl))
  f29 := Tryz.func78.trans (congrArg some (by kernel_rfl))
  f46 := ⟨Tryz.f103.name, by decide, Tryz.func103.trans (congrArg some (by kernel_rfl))⟩
  f47 := Tryz.func104.trans (congrArg some (by kernel_rfl))
  f48 := Tryz.func105.trans (congrArg some (by kernel_rfl))
  f49 := ⟨Tryz.f106.name, by decide, Tryz.func106.trans (congrArg some (by kernel_rfl))⟩
  f50 := ⟨Tryz.f107.name, by decide, Tryz.func107.trans (congrArg some (by kernel_rfl))⟩
  f57 := ⟨Tryz.f118.name, by decide, Tryz.func118.trans (congrArg some (by kernel_rfl))⟩
  t0 := Tryz.underlying0
  a0 := Tryz.isAgg0
  z0 := Tryz.sizeOf0
  v0 := Tryz.zeroValue0
  t3 := Tryz.underlying3
  a3 := Tryz.isAgg3
  z3 := Tryz.sizeOf3
  v3 := Tryz.zeroValue3
  t4 := Tryz.underlying4
  a4 := Tryz.isAgg4
  z4 := Tryz.sizeOf4
  v4 := Tryz.zeroValue4
  t5 := Tryz.underlying5
  a5 := Tryz.isAgg5
  z5 := Tryz.sizeOf5
  v5 := Tryz.zeroValue5
  t9 := Tryz.underlying9
  a9 := Tryz.isAgg9
  z9 := Tryz.sizeOf9
  v9 := Tryz.zeroValue9
  t22 := Tryz.underlying27
  a22 := Tryz.isAgg27
  z22 := Tryz.sizeOf27
  v22 := Tryz.zeroValue27
  t25 := Tryz.underlying51
  a25 := Tryz.isAgg51
  z25 := Tryz.sizeOf51
  v25 := Tryz.zeroValue51
  t39 := Tryz.underlying75
  a39 := Tryz.isAgg75
  z39 := Tryz.sizeOf75
  v39 := Tryz.zeroValue75
  t45 := Tryz.underlying95
  a45 := Tryz.isAgg95
  z45 := Tryz.sizeOf95
  v45 := Tryz.zeroValue95
  t46 := Tryz.underlying96
  a46 := Tryz.isAgg96
  z46 := Tryz.sizeOf96
  v46 := Tryz.zeroValue96
  t50 := Tryz.underlying33
  a50 := Tryz.isAgg33
  z50 := Tryz.sizeOf33
  v50 := Tryz.zeroValue33
  t53 := Tryz.underlying82
  a53 := Tryz.isAgg82
  z53 := Tryz.sizeOf82
  v53 := Tryz.zeroValue82
  t55 := Tryz.underlying41
  a55 := Tryz.isAgg41
  z55 := Tryz.sizeOf41
  v55 := Tryz.zeroValue41
  t66 := Tryz.underlying116
  a66 := Tryz.isAgg116
  z66 := Tryz.sizeOf116
  v66 := Tryz.zeroValue116
  t70 := Tryz.underlying120
  a70 := Tryz.isAgg120
  z70 := Tryz.sizeOf120
  v70 := Tryz.zeroValue120
  t76 := Tryz.underlying127
  a76 := Tryz.isAgg127
  z76 := Tryz.sizeOf127
  v76 := Tryz.zeroValue127
  t77 := Tryz.underlying128
  a77 := Tryz.isAgg128
  z77 := Tryz.sizeOf128
  v77 := Tryz.zeroValue128 }
end Go.Proofs

