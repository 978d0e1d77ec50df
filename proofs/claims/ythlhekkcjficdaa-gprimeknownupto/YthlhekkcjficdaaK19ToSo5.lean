/- The factors multiplied back. -/
import Derived.Test.YthlhekkcjficdaaK13ToK18
import Derived.Test.YthlhekkcjficdaaDrToJ2
import Derived.Shelf.SlLaysF0
import Derived.Ground.SlsfProg
import Derived.Test.YthlhekkcjficdaaW6ToP10
import Derived.Shelf.SlSortCmp.NoneTotal

namespace Go.Proofs.Ythlhekkcjficdaa
open Go Go.RowKit Dig
set_option linter.unusedVariables false
end Go.Proofs.Ythlhekkcjficdaa


/- A list of factors in memory, and what a sort leaves of it. -/
namespace Go.Proofs.Ythlhekkcjficdaa
open Go Go.RowKit Dig
set_option linter.unusedVariables false

theorem flat_get {α : Type} (f : α → List Value) (k : Nat) (hk : ∀ x, (f x).length = k) : ∀ (l : List α) (i r : Nat) (hi : i < l.length), r < k → (l.flatMap f)[i * k + r]? = (f l[i])[r]?
  | [], i, r, hi, _ => absurd hi (Nat.not_lt_zero _)
  | x :: l, 0, r, hi, hr => by
    rw [List.flatMap_cons, List.getElem?_append_left (by rw [hk]; omega), Nat.zero_mul, Nat.zero_add]
    rfl
  | x :: l, i + 1, r, hi, hr => by
    rw [List.flatMap_cons, List.getElem?_append_right (by rw [hk, Nat.add_mul]; omega), hk, show (i + 1) * k + r - k = i * k + r by rw [Nat.add_mul]; omega]
    exact flat_get f k hk l i r (by simpa using hi) hr
theorem flat_len {α : Type} (f : α → List Value) (k : Nat) (hk : ∀ x, (f x).length = k) : ∀ l : List α, (l.flatMap f).length = l.length * k
  | [] => by simp
  | x :: l => by rw [List.flatMap_cons, List.length_append, hk, flat_len f k hk l, List.length_cons, Nat.add_mul]; omega
theorem flatK_eq {α : Type} [Inhabited α] (f : α → List Value) (k : Nat) (h0 : 0 < k) (hk : ∀ x, (f x).length = k) (d : Array α) : Sort.flatK f k d = (d.toList.flatMap f).toArray := by
  apply Array.ext
  · rw [Sort.size_flatK]
    show d.size * k = (d.toList.flatMap f).length
    rw [flat_len f k hk]; rfl
  · intro j h1 h2
    rw [Sort.size_flatK] at h1
    have hd : j / k < d.size := Nat.div_lt_of_lt_mul (by rw [Nat.mul_comm]; exact h1)
    have hm : j % k < k := Nat.mod_lt _ h0
    have e1 := Sort.get_flatK f k d j h1
    rw [getElem!_pos _ _ (by rw [Sort.size_flatK]; exact h1)] at e1
    rw [e1, getElem!_pos d _ hd, getElem!_pos _ _ (by rw [hk]; exact hm)]
    have e2 := flat_get f k hk d.toList (j / k) (j % k) (by simpa using hd) hm
    rw [show j / k * k + j % k = j by rw [Nat.mul_comm]; exact Nat.div_add_mod j k] at e2
    rw [List.getElem?_eq_getElem (by simpa using h2), List.getElem?_eq_getElem (by rw [hk]; exact hm)] at e2
    injection e2 with e2
    show _ = (d.toList.flatMap f)[j]'(by simpa using h2)
    rw [e2]
    rfl
theorem flat_map {α β : Type} (f : α → β) (g : β → List Value) (l : List α) : (l.map f).flatMap g = l.flatMap fun x => g (f x) := by
  rw [List.flatMap_map]
/-- What the row holds behind a store of a whole list. -/
theorem put_take {cur : Array Value} {F : Array Value} {n : Nat} (hF : F.size = n) (hn : n ≤ cur.size) : (Sort.putCells id 0 F cur).toList.take n = F.toList := by
  apply List.ext_getElem?
  intro i
  by_cases hi : i < n
  · rw [List.getElem?_take_of_lt hi]
    have e : (Sort.putCells id 0 F cur)[i]? = F[i]? := by
      unfold Sort.putCells
      rw [Array.getElem?_mapIdx, Array.getElem?_eq_getElem (show i < cur.size by omega), Option.map_some, if_pos ⟨Nat.zero_le _, by omega⟩, Nat.sub_zero, getElem!_pos F i (by omega), Array.getElem?_eq_getElem (show i < F.size by omega)]
      rfl
    simpa using e
  · rw [List.getElem?_eq_none (by rw [List.length_take]; omega), List.getElem?_eq_none (by simp; omega)]
theorem put_nd {cur F : Array Value} (hc : cur.toList.all nd = true) (hF : F.toList.all nd = true) : (Sort.putCells id 0 F cur).toList.all nd = true := by
  simp only [List.all_eq_true] at *
  intro x hx
  unfold Sort.putCells at hx
  rw [Array.mem_toList_iff, Array.mem_mapIdx] at hx
  obtain ⟨i, hi, rfl⟩ := hx
  split
  · rename_i h
    rw [getElem!_pos F _ (by omega)]
    exact hF _ (by simp)
  · exact hc _ (by simp)
theorem Pws.flat {w : World} (d : List (Pws w)) : d.flatMap Pws.enc = (d.map (·.1)).flatMap Pw.cells := (flat_map (fun p : Pws w => p.1) Pw.cells d).symm
theorem Pw.nds (l : List Pw) : (l.flatMap Pw.cells).all nd = true := by
  rw [List.all_eq_true]
  intro x hx
  rw [List.mem_flatMap] at hx
  obtain ⟨p, _, hx⟩ := hx
  simp only [Pw.cells, List.mem_cons, List.not_mem_nil, or_false] at hx
  rcases hx with rfl | rfl | rfl | rfl | rfl <;> rfl
section
variable {w : World} {B ty g c n : Nat} {ps : List Pw}
/-- The list as an array that the sort's laws speak of. -/
def Pws.arr (ps : List Pw) (hok : ∀ p ∈ ps, p.ok w) : Array (Pws w) := (ps.attachWith (Pw.ok w) hok).toArray
theorem Pws.arr_map (hok : ∀ p ∈ ps, p.ok w) : (Pws.arr ps hok).toList.map (·.1) = ps := by
  unfold Pws.arr
  simp
theorem Pws.arr_size (hok : ∀ p ∈ ps, p.ok w) : (Pws.arr ps hok).size = ps.length := by
  unfold Pws.arr
  simp
theorem fac_holds {o : Option Addr} (h : Lst w B ty 5 (.slice o n c) n (ps.flatMap Pw.cells)) (hok : ∀ p ∈ ps, p.ok w) (hg : o = some ⟨g, 0, none⟩) :
    Sort.HoldsK Pws.enc 5 w g 0 (Pws.arr ps hok) := by
  subst hg
  intro j hj
  rw [Sort.size_flatK, Pws.arr_size] at hj
  have e : Sort.flatK Pws.enc 5 (Pws.arr ps hok) = (ps.flatMap Pw.cells).toArray := by
    rw [flatK_eq _ 5 (by omega) Pws.len, Pws.flat, Pws.arr_map]
  have hl : j < (ps.flatMap Pw.cells).length := by rw [flat_len _ 5 (fun _ => rfl)]; exact hj
  rw [e, getElem!_pos _ j (by simpa using hl), List.getElem_toArray]
  obtain ⟨g', e1, hc⟩ := h.cell (List.getElem?_eq_getElem hl)
  injection e1 with e1
  obtain rfl : g = g' := congrArg Addr.block e1
  rw [Nat.zero_add]
  refine ⟨hc, ?_⟩
  rcases h.1.2 with ⟨e2, _⟩ | ⟨g2, cap, cur, e2, hb, hh, _⟩
  · cases e2
  · obtain rfl : g = g2 := by simp only [Value.slice.injEq, Option.some.injEq, Addr.mk.injEq, and_true] at e2; exact e2.1
    simp [World.frozen?, hh]
end
end Go.Proofs.Ythlhekkcjficdaa


/- A list of factors in memory behind a sort. -/
namespace Go.Proofs.Ythlhekkcjficdaa
open Go Go.RowKit Dig
set_option linter.unusedVariables false
section
variable {w w' : World} {B ty g c n m : Nat} {ps : List Pw} {os : Array Obj}
/-- Rising, as gint.Cmp tells. -/
def Ris (qs : List Pw) : Prop := qs.Pairwise fun p q => ¬ gcmp q.x q.y p.x p.y < 0
theorem fac_sorted (h : Lst w B ty 5 (.slice (some ⟨g, 0, none⟩) n c) n (ps.flatMap Pw.cells)) (hok : ∀ p ∈ ps, p.ok w) (hn : ps.length = n) {d' : Array (Pws w)} (hp : Sort.PermIn 0 (Pws.arr ps hok).size (Pws.arr ps hok) d')
    (hs : Sort.SortedIn (ltOf Pws.cf) 0 (Pws.arr ps hok).size d') (hw : w' = sortWorldK Pws.enc 5 w g 0 m d' os) :
    ∃ qs, qs.Perm ps ∧ Ris qs ∧ Lst w' B ty 5 (.slice (some ⟨g, 0, none⟩) n c) n (qs.flatMap Pw.cells) ∧ w.grownBy w' (some g) ∧ ∀ q ∈ qs, q.ok w := by
  have hsz : d'.size = n := by rw [hp.1, Pws.arr_size, hn]
  have hsa : (Pws.arr ps hok).size = n := by rw [Pws.arr_size, hn]
  have hperm : d'.toList.Perm (Pws.arr ps hok).toList := by
    have h3 := hp.2.2
    have e1 : d'.extract 0 (Pws.arr ps hok).size = d' := by rw [← hp.1]; exact Array.extract_size
    have e2 : (Pws.arr ps hok).extract 0 (Pws.arr ps hok).size = Pws.arr ps hok := Array.extract_size
    rw [e1, e2] at h3
    exact h3
  have hflat : Sort.flatK Pws.enc 5 d' = ((d'.toList.map (·.1)).flatMap Pw.cells).toArray := by rw [flatK_eq _ 5 (by omega) Pws.len, Pws.flat]
  have hfs : (Sort.flatK Pws.enc 5 d').size = n * 5 := by rw [Sort.size_flatK, hsz]
  rcases h.1.2 with ⟨e2, _⟩ | ⟨g2, cap, cur, e2, hb, hh, hnc, hcm, hcs, htake⟩
  · cases e2
  obtain ⟨rfl, rfl⟩ : g = g2 ∧ c = cap := by simp only [Value.slice.injEq, Option.some.injEq, Addr.mk.injEq, and_true, true_and] at e2; exact e2
  have hgl : g < w.heap.size := by
    rcases Nat.lt_or_ge g w.heap.size with hl | hl
    · exact hl
    · rw [Array.getElem?_eq_none hl] at hh; cases hh
  have hblk : w'.heap[g]? = some (.cells (Sort.putCells id 0 (Sort.flatK Pws.enc 5 d') cur) ty (0, 0)) := by
    rw [hw]
    show ((w.heap.modify g _) ++ os)[g]? = _
    rw [Array.getElem?_append_left (by simpa using hgl), Array.getElem?_modify, if_pos rfl, hh]
    rfl
  have hput : (Sort.putCells id 0 (Sort.flatK Pws.enc 5 d') cur).size = cur.size := by simp [Sort.putCells]
  have hfn : n * 5 ≤ c * 5 := Nat.mul_le_mul_right 5 hnc
  refine ⟨d'.toList.map (·.1), ?_, ?_, ⟨⟨?_, .inr ⟨g, c, _, rfl, hb, hblk, hnc, hcm, hput.trans hcs, ?_⟩⟩, ?_⟩, ?_, ?_⟩
  · have := hperm.map (·.1)
    rw [Pws.arr_map] at this
    exact this
  · unfold Ris
    rw [List.pairwise_map, List.pairwise_iff_getElem]
    intro i j hi hj hij
    have := hs i j (Nat.zero_le _) hij (by rw [hsa, ← hsz]; simpa using hj)
    rw [getElem!_pos d' i (by simpa using hi), getElem!_pos d' j (by simpa using hj)] at this
    have h4 := of_decide_eq_false this
    simpa [Pws.cf] using h4
  · rw [flat_len _ 5 (fun _ => rfl)]
    simp [hsz]
  · rw [put_take hfs (by rw [hcs]; exact hfn), hflat]
  · intro k cur2 hk hc
    obtain rfl : g = k := by simpa [Value.ownBlock] using hk
    rw [hblk] at hc
    injection hc with hc
    injection hc with hc
    rw [← hc]
    exact put_nd (h.2 g cur rfl hh) (by rw [hflat]; exact Pw.nds _)
  · rw [hw]
    refine ⟨rfl, rfl, rfl, ?_, fun k hk hne => ?_⟩
    · show _ ≤ ((w.heap.modify g _) ++ os).size
      simp
    · show ((w.heap.modify g _) ++ os)[k]? = _
      rw [Array.getElem?_append_left (by simpa using hk), Array.getElem?_modify, if_neg (fun e => hne (by rw [e]))]
  · intro q hq
    rw [List.mem_map] at hq
    obtain ⟨p, _, rfl⟩ := hq
    exact p.2
end
end Go.Proofs.Ythlhekkcjficdaa


/- The factors rise strictly. -/
namespace Go.Proofs.Ythlhekkcjficdaa
open Go Go.RowKit Dig
set_option linter.unusedVariables false
theorem ris_strict {qs : List Pw} {T : List (Int × Int × Int)} (hr : Ris qs) (hp : (qs.map Pw.val).Perm T) (hd : (T.map Pr).Nodup) : qs.Pairwise fun p q => gcmp p.x p.y q.x q.y < 0 := by
  have h1 : (qs.map fun q => (q.x, q.y)).Nodup := by
    have h2 := (hp.map Pr).nodup_iff.2 hd
    rw [List.map_map] at h2
    exact h2
  have h3 : qs.Pairwise fun p q => (p.x, p.y) ≠ (q.x, q.y) := by
    have := h1
    rw [List.nodup_iff_pairwise_ne, List.pairwise_map] at this
    exact this
  refine (List.Pairwise.and hr h3).imp fun {p q} h => ?_
  have h4 := h.1
  have h5 : ¬ (p.x = q.x ∧ p.y = q.y) := fun e => h.2 (by rw [e.1, e.2])
  rw [gcmp_lt] at h4 ⊢
  by_cases hx : p.x = q.x
  · by_cases hy : p.y = q.y
    · exact absurd ⟨hx, hy⟩ h5
    · generalize gN p.x p.y = a at *
      generalize gN q.x q.y = b at *
      omega
  · generalize gN p.x p.y = a at *
    generalize gN q.x q.y = b at *
    omega
end Go.Proofs.Ythlhekkcjficdaa


/-
  DERIVED: THE SHELF's CONTRACTS AT THIS DUMP, IN PLAIN WORDS (tools/lay-plain.mjs out of 'TryShelfS.lean', which tools/lay-shelf.mjs wrote): THE SAME DECLARATIONS UNDER THE SAME NAMES: 'import', 'namespace', 'open', 'def', 'theorem' AND NOTHING ELSE: no command of the shelf's: FOR A HAND-IN. Each laying: the table of numbers ('.._ren') and one theorem, a field a fact of the dump's own or the kernel's comparison; each contract: ONE APPLICATION.
-/
namespace Go.Proofs
open Go.Shelf
def Try.laysS_ren : Go.Shelf.Ren := ⟨fun | 6 => 30 | 15 => 53 | 14 => 52 | 28 => 76 | 29 => 77 | 20 => 68 | 21 => 69 | 22 => 70 | 23 => 71 | 24 => 72 | 25 => 73 | 26 => 74 | 27 => 75 | 46 => 87 | 47 => 88 | 48 => 89 | 49 => 90 | 50 => 91 | 57 => 95 | n => n, fun | 22 => 32 | 24 => 37 | 25 => 64 | 3 => 3 | 39 => 69 | 0 => 0 | 53 => 68 | 55 => 54 | 4 => 4 | 46 => 99 | 45 => 98 | 50 => 103 | 5 => 5 | 9 => 9 | 66 => 112 | 70 => 116 | 76 => 119 | 77 => 120 | n => n, fun | n => n⟩
theorem Try.laysS : Go.Proofs.SlLaysF0.n6 Try.prog Try.laysS_ren := {
  mixed := by kernel_rfl
  f6 := ⟨Try.f30.name, by decide, Try.func30.trans (congrArg some (by kernel_rfl))⟩
  f14 := ⟨Try.f52.name, by decide, Try.func52.trans (congrArg some (by kernel_rfl))⟩
  f15 := Try.func53.trans (congrArg some (by kernel_rfl))
  f20 := ⟨Try.f68.name, by decide, Try.func68.trans (congrArg some (by kernel_rfl))⟩
  f21 := ⟨Try.f69.name, by decide, Try.func69.trans (congrArg some (by kernel_rfl))⟩
  f22 := ⟨Try.f70.name, by decide, Try.func70.trans (congrArg some (by kernel_rfl))⟩
  f23 := ⟨Try.f71.name, by decide, Try.func71.trans (congrArg some (by kernel_rfl))⟩
  f24 := ⟨Try.f72.name, by decide, Try.func72.trans (congrArg some (by kernel_rfl))⟩
  f25 := ⟨Try.f73.name, by decide, Try.func73.trans (congrArg some (by kernel_rfl))⟩
  f26 := ⟨Try.f74.name, by decide, Try.func74.trans (congrArg some (by kernel_rfl))⟩
  f27 := ⟨Try.f75.name, by decide, Try.func75.trans (congrArg some (by kernel_rfl))⟩
  f28 := Try.func76.trans (congrArg some (by kernel_rfl))
  f29 := Try.func77.trans (congrArg some (by kernel_rfl))
  f46 := ⟨Try.f87.name, by decide, Try.func87.trans (congrArg some (by kernel_rfl))⟩
  f47 := Try.func88.trans (congrArg some (by kernel_rfl))
  f48 := Try.func89.trans (congrArg some (by kernel_rfl))
  f49 := ⟨Try.f90.name, by decide, Try.func90.trans (congrArg some (by kernel_rfl))⟩
  f50 := ⟨Try.f91.name, by decide, Try.func91.trans (congrArg some (by kernel_rfl))⟩
  f57 := ⟨Try.f95.name, by decide, Try.func95.trans (congrArg some (by kernel_rfl))⟩
  t0 := Try.underlying0
  a0 := Try.isAgg0
  z0 := Try.sizeOf0
  v0 := Try.zeroValue0
  t3 := Try.underlying3
  a3 := Try.isAgg3
  z3 := Try.sizeOf3
  v3 := Try.zeroValue3
  t4 := Try.underlying4
  a4 := Try.isAgg4
  z4 := Try.sizeOf4
  v4 := Try.zeroValue4
  t5 := Try.underlying5
  a5 := Try.isAgg5
  z5 := Try.sizeOf5
  v5 := Try.zeroValue5
  t9 := Try.underlying9
  a9 := Try.isAgg9
  z9 := Try.sizeOf9
  v9 := Try.zeroValue9
  t22 := Try.underlying32
  a22 := Try.isAgg32
  z22 := Try.sizeOf32
  v22 := Try.zeroValue32
  t25 := Try.underlying64
  a25 := Try.isAgg64
  z25 := Try.sizeOf64
  v25 := Try.zeroValue64
  t39 := Try.underlying69
  a39 := Try.isAgg69
  z39 := Try.sizeOf69
  v39 := Try.zeroValue69
  t45 := Try.underlying98
  a45 := Try.isAgg98
  z45 := Try.sizeOf98
  v45 := Try.zeroValue98
  t46 := Try.underlying99
  a46 := Try.isAgg99
  z46 := Try.sizeOf99
  v46 := Try.zeroValue99
  t50 := Try.underlying103
  a50 := Try.isAgg103
  z50 := Try.sizeOf103
  v50 := Try.zeroValue103
  t53 := Try.underlying68
  a53 := Try.isAgg68
  z53 := Try.sizeOf68
  v53 := Try.zeroValue68
  t55 := Try.underlying54
  a55 := Try.isAgg54
  z55 := Try.sizeOf54
  v55 := Try.zeroValue54
  t66 := Try.underlying112
  a66 := Try.isAgg112
  z66 := Try.sizeOf112
  v66 := Try.zeroValue112
  t70 := Try.underlying116
  a70 := Try.isAgg116
  z70 := Try.sizeOf116
  v70 := Try.zeroValue116
  t76 := Try.underlying119
  a76 := Try.isAgg119
  z76 := Try.sizeOf119
  v76 := Try.zeroValue119
  t77 := Try.underlying120
  a77 := Try.isAgg120
  z77 := Try.sizeOf120
  v77 := Try.zeroValue120 }
end Go.Proofs


/- slices.SortFunc at a list of factors. -/
namespace Go.Proofs.Ythlhekkcjficdaa
open Go Go.RowKit Dig
set_option linter.unusedVariables false
theorem fac_enters (args : Array Value) (w : World) : (callFunc 31 args).run Try.prog w = .ok (.enter 31 args) w := by kernel_rfl
theorem fac_sort {w : World} {B n c : Nat} {o : Option Addr} {ps : List Pw} (h : Lst w B 37 5 (.slice o n c) n (ps.flatMap Pw.cells)) (hok : ∀ p ∈ ps, p.ok w) (hn : ps.length = n) (hsz : n < 4611686018427387904) :
    Calls Try.prog 30 #[.slice o n c, .func (.func 31) #[] #[]] w fun e w' => e = .returned (.tuple #[]) ∧
      ∃ qs, qs.Perm ps ∧ Ris qs ∧ Lst w' B 37 5 (.slice o n c) n (qs.flatMap Pw.cells) ∧ w.grownBy w' (Value.slice o n c).ownBlock ∧ ∀ q ∈ qs, q.ok w := by
  rcases h.1.2 with ⟨e2, h0⟩ | ⟨g, cap, cur, e2, hb, hh, _⟩
  · subst h0
    obtain rfl : ps = [] := List.eq_nil_of_length_eq_zero hn
    refine (AnyF.slices_SortFunc_none Try.laysS o c (.func (.func 31) #[] #[]) w).mono ?_
    rintro e w' ⟨he, hw⟩
    subst hw
    exact ⟨he, [], .refl _, List.Pairwise.nil, h, ⟨rfl, rfl, rfl, Nat.le_refl _, fun _ _ _ => rfl⟩, fun _ hq => nomatch hq⟩
  · obtain ⟨rfl, rfl⟩ : o = some ⟨g, 0, none⟩ ∧ c = cap := by simp only [Value.slice.injEq, true_and] at e2; exact e2
    have hnod := h.nod rfl g rfl
    have hgl : g < w.heap.size := by
      rcases Nat.lt_or_ge g w.heap.size with hl | hl
      · exact hl
      · rw [Array.getElem?_eq_none hl] at hh; cases hh
    have hd : (Pws.arr ps hok).size = n := by rw [Pws.arr_size, hn]
    have hs := AnyQ.slices_SortFunc Try.laysS 5 Try.isAgg37 Try.sizeOf37 Pws.enc Pws.len Pws.one Pws.cf (Pws.swo w) 31 #[] g 0 c (Pws.arr ps hok) w fac_enters (fac_lays hnod) (fac_holds h hok rfl) hgl (by rw [hd]; exact hsz)
    rw [hd] at hs
    refine hs.mono ?_
    rintro e w' ⟨he, d', m, os, hp, hr, hw⟩
    obtain ⟨qs, h1, h2, h3, h4, h5⟩ := fac_sorted h hok hn (d' := d') (by rw [hd]; exact hp) (by rw [hd]; exact hr) hw
    exact ⟨he, qs, h1, h2, h3, h4, h5⟩
end Go.Proofs.Ythlhekkcjficdaa

