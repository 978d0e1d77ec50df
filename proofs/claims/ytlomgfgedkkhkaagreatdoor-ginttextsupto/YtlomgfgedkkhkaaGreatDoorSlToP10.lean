/- What a world says of slices of digits: read ones (Rd), rows of the call's own (Row, Own), and what of the world may have turned (Only). -/
import Derived.Test.YtlomgfgedkkhkaaGreatDoorRows
import Derived.WalkKit
import Derived.WalkSpells
import Derived.WalkLawsBesides
import Derived.Test.YtlomgfgedkkhkaaGreatDoorDig
import Derived.Deep.RegionWith
namespace Go.Proofs.YtlomgfgedkkhkaaGreatDoor
open Go.RowKit Dig
theorem hide {p : Prop} (h : p) : Hid p := h
/-- The digit as a cell. -/
def dv (d : Nat) : Value := .int .u32 (d : Int)
def cs (xs : List Nat) : Array Value := (xs.map dv).toArray
def Cells (w : World) (oa : Option Addr) (ds : List Nat) : Prop :=
  ds = [] ∨ ∃ b off, oa = some ⟨b, off, none⟩ ∧ ∀ i, i < ds.length → w.cell? ⟨b, off + i, none⟩ = some (.int .u32 (ds[i]?.getD 0 : Nat))
/-- v is a slice whose digits, as w reads them, are ds. -/
def Rd (w : World) (v : Value) (ds : List Nat) : Prop :=
  ∃ oa cap, v = .slice oa ds.length cap ∧ ds.length ≤ cap ∧ OK ds ∧ Cells w oa ds
/-- Block b is a row of digits xs, not frozen. -/
def Row (w : World) (b : Nat) (xs : List Nat) : Prop := w.heap[b]? = some (.cells (cs xs) 56 (0, 0)) ∧ OK xs
/-- v is a slice of digits ds in a block from B on, which bears nothing else than digits. -/
def Own (w : World) (B : Nat) (v : Value) (ds : List Nat) : Prop :=
  ∃ oa cap, v = .slice oa ds.length cap ∧ ds.length ≤ cap ∧
    ((cap = 0) ∨ ∃ b off xs, oa = some ⟨b, off, none⟩ ∧ B ≤ b ∧ Row w b xs ∧ off + cap ≤ xs.length ∧ ds = (xs.drop off).take ds.length)
/-- Nothing but block b may have turned. -/
structure Only (b : Nat) (w w' : World) : Prop where
  os : w'.os = w.os
  tape : w'.tape = w.tape
  output : w'.output = w.output
  size : w'.heap.size = w.heap.size
  block : ∀ k, k ≠ b → w'.heap[k]? = w.heap[k]?
theorem Only.refl (b : Nat) (w : World) : Only b w w := ⟨rfl, rfl, rfl, rfl, fun _ _ => rfl⟩
theorem Only.trans {b : Nat} {u v w : World} (h : Only b u v) (k : Only b v w) : Only b u w :=
  ⟨k.os.trans h.os, k.tape.trans h.tape, k.output.trans h.output, k.size.trans h.size, fun i hi => (k.block i hi).trans (h.block i hi)⟩
theorem Only.setCell {b : Nat} {u w : World} (h : Only b u w) (o : Nat) (v : Value) : Only b u (w.setCell ⟨b, o, none⟩ v) :=
  h.trans ⟨rfl, rfl, rfl, by simp [World.setCell], fun k hk => Below.heap_setCell _ _ _ _ hk⟩
theorem Only.below {b B : Nat} {u w : World} (h : Only b u w) (hb : B ≤ b) : Below B u w :=
  ⟨h.os, h.tape, h.output, by rw [h.size]; exact Nat.le_refl _, fun k hk => h.block k (by omega)⟩
theorem Only.row {b c : Nat} {u w : World} (h : Only b u w) {xs : List Nat} (hr : Row u c xs) (hc : c ≠ b) : Row w c xs := ⟨by rw [h.block c hc]; exact hr.1, hr.2⟩
theorem cs_size (xs : List Nat) : (cs xs).size = xs.length := by simp [cs]
theorem cs_get {xs : List Nat} {i : Nat} (h : i < xs.length) : (cs xs)[i]? = some (.int .u32 (xs[i]?.getD 0 : Nat)) := by
  simp [cs, dv, h]
theorem cs_set (xs : List Nat) (i d : Nat) : (cs xs).setIfInBounds i (.int .u32 (d : Int)) = cs (xs.set i d) := by
  have : (xs.map dv).set i (.int .u32 (d : Int)) = (xs.set i d).map dv := by rw [List.map_set]; rfl
  simp [cs, this]
theorem Row.lt {w : World} {b : Nat} {xs : List Nat} (h : Row w b xs) : b < w.heap.size := by
  have := h.1
  rcases Nat.lt_or_ge b w.heap.size with hb | hb
  · exact hb
  · rw [Array.getElem?_eq_none hb] at this; cases this
theorem Row.cell {w : World} {b : Nat} {xs : List Nat} (h : Row w b xs) {i : Nat} (hi : i < xs.length) : w.cell? ⟨b, i, none⟩ = some (.int .u32 (xs[i]?.getD 0 : Nat)) := by
  simp [World.cell?, h.1, cs_get hi]
theorem Row.free {w : World} {b : Nat} {xs : List Nat} (h : Row w b xs) (i : Nat) : w.frozen? ⟨b, i, none⟩ = false := by
  simp [World.frozen?, h.1]
theorem Row.set {w : World} {b : Nat} {xs : List Nat} (h : Row w b xs) (i : Nat) {d : Nat} (hd : d < 4294967296) : Row (w.setCell ⟨b, i, none⟩ (.int .u32 (d : Int))) b (xs.set i d) := by
  refine ⟨?_, h.2.set i hd⟩
  simp only [World.setCell, Array.getElem?_modify, h.1]
  simp [cs_set]
theorem Row.below {w w' : World} {b B : Nat} {xs : List Nat} (h : Row w b xs) (hb : Below B w w') (hB : b < B) : Row w' b xs := ⟨by rw [hb.block b hB]; exact h.1, h.2⟩
theorem Row.drew {w : World} {b : Nat} {xs : List Nat} (h : Row w b xs) : Row w.drew b xs := ⟨h.1, h.2⟩
theorem Cells.lt {w : World} {b off : Nat} {ds : List Nat} (hcell : ∀ i, i < ds.length → w.cell? ⟨b, off + i, none⟩ = some (.int .u32 (ds[i]?.getD 0 : Nat))) (hne : ds ≠ []) : b < w.heap.size := by
  have h := hcell 0 (List.length_pos_iff.2 hne)
  rcases Nat.lt_or_ge b w.heap.size with hb | hb
  · exact hb
  · simp [World.cell?, Array.getElem?_eq_none hb] at h
theorem Cells.below {w w' : World} {oa : Option Addr} {ds : List Nat} (h : Cells w oa ds) {B : Nat} (hb : Below B w w') (hB : w.heap.size ≤ B) : Cells w' oa ds := by
  by_cases hne : ds = []
  · exact .inl hne
  · obtain ⟨b, off, ho, hc⟩ := h.resolve_left hne
    have hlt := Cells.lt hc hne
    exact .inr ⟨b, off, ho, fun i hi => by rw [hb.cell (p := ⟨b, off + i, none⟩) (by show b < B; omega)]; exact hc i hi⟩
/-- A digit that is read: its place, and its value by a name of its own. -/
theorem Cells.get {w : World} {oa : Option Addr} {ds : List Nat} (h : Cells w oa ds) {i : Nat} (hi : i < ds.length) :
    ∃ b off x, oa = some ⟨b, off, none⟩ ∧ w.cell? ⟨b, off + i, none⟩ = some (.int .u32 ((x : Nat) : Int)) ∧ Hid (ds[i]?.getD 0 = x) := by
  have hne : ds ≠ [] := fun e => by rw [e] at hi; simp at hi
  obtain ⟨b, off, ho, hc⟩ := h.resolve_left hne
  exact ⟨b, off, _, ho, hc i hi, rfl⟩
/-- The slice does not lie in block b. -/
def Off (b : Nat) (oa : Option Addr) : Prop := ∀ a, oa = some a → a.block ≠ b
theorem Cells.only {w w' : World} {b : Nat} {oa : Option Addr} {ds : List Nat} (h : Cells w oa ds) (ho : Only b w w') (hoff : Off b oa) : Cells w' oa ds := by
  by_cases hne : ds = []
  · exact .inl hne
  · obtain ⟨c, off, e, hc⟩ := h.resolve_left hne
    refine .inr ⟨c, off, e, fun i hi => ?_⟩
    rw [← hc i hi]
    exact World.cell?_of_block (w := w) (ho.block c (hoff _ e))
theorem Cells.take {w : World} {oa : Option Addr} {ds : List Nat} (h : Cells w oa ds) (n : Nat) : Cells w oa (ds.take n) := by
  by_cases hne : ds.take n = []
  · exact .inl hne
  · have hne' : ds ≠ [] := fun e => hne (by simp [e])
    obtain ⟨b, off, ho, hc⟩ := h.resolve_left hne'
    refine .inr ⟨b, off, ho, fun i hi => ?_⟩
    rw [List.length_take] at hi
    rw [hc i (by omega), List.getElem?_take_of_lt (by omega)]
theorem Rd.ok {w : World} {v : Value} {ds : List Nat} (h : Rd w v ds) : OK ds := by obtain ⟨_, _, _, _, h, _⟩ := h; exact h
theorem Rd.below {w w' : World} {v : Value} {ds : List Nat} (h : Rd w v ds) {B : Nat} (hb : Below B w w') (hB : w.heap.size ≤ B) : Rd w' v ds := by
  obtain ⟨oa, cap, hv, hc, ok, hcell⟩ := h
  exact ⟨oa, cap, hv, hc, ok, hcell.below hb hB⟩
theorem Rd.drew {w : World} {v : Value} {ds : List Nat} (h : Rd w v ds) : Rd w.drew v ds := h.below ((Below.refl _ _).drew) (Nat.le_refl _)
theorem Rd.alloc {w : World} {v : Value} {ds : List Nat} (h : Rd w v ds) (o : Obj) : Rd (w.alloc o) v ds := h.below ((Below.refl w.heap.size _).alloc (Nat.le_refl _) o) (Nat.le_refl _)
theorem Cells.of_row {w : World} {b off n : Nat} {xs : List Nat} (h : Row w b xs) (hn : off + n ≤ xs.length) : Cells w (some ⟨b, off, none⟩) ((xs.drop off).take n) := by
  refine .inr ⟨b, off, rfl, fun i hi => ?_⟩
  simp at hi
  rw [h.cell (by omega), List.getElem?_take_of_lt (by omega), List.getElem?_drop]
theorem Own.ok {w : World} {B : Nat} {v : Value} {ds : List Nat} (h : Own w B v ds) : OK ds := by
  obtain ⟨oa, cap, hv, hc, h0 | ⟨b, off, xs, ho, hB, hr, hx, hd⟩⟩ := h
  · have : ds = [] := List.length_eq_zero_iff.1 (by omega)
    rw [this]; exact OK.nil
  · rw [hd]; exact (hr.2.drop off).take _
/-- What is owned can be read. -/
theorem Own.rd {w : World} {B : Nat} {v : Value} {ds : List Nat} (h : Own w B v ds) : Rd w v ds := by
  have ok := h.ok
  obtain ⟨oa, cap, hv, hc, h0 | ⟨b, off, xs, ho, hB, hr, hx, hd⟩⟩ := h
  · exact ⟨oa, cap, hv, hc, ok, .inl (List.length_eq_zero_iff.1 (by omega))⟩
  · refine ⟨oa, cap, hv, hc, ok, ?_⟩
    have := Cells.of_row (n := ds.length) hr (show off + ds.length ≤ xs.length by omega)
    rw [← hd] at this
    rw [ho]; exact this
theorem Own.below {w w' : World} {C : Nat} {v : Value} {ds : List Nat} (h : Own w C v ds) {B : Nat} (hb : Below B w w') (hB : w.heap.size ≤ B) : Own w' C v ds := by
  obtain ⟨oa, cap, hv, hc, h0 | ⟨b, off, xs, ho, hB', hr, hx, hd⟩⟩ := h
  · exact ⟨oa, cap, hv, hc, .inl h0⟩
  · exact ⟨oa, cap, hv, hc, .inr ⟨b, off, xs, ho, hB', hr.below hb (by have := hr.lt; omega), hx, hd⟩⟩
theorem Own.mono {w : World} {B C : Nat} {v : Value} {ds : List Nat} (h : Own w B v ds) (hC : C ≤ B) : Own w C v ds := by
  obtain ⟨oa, cap, hv, hc, h0 | ⟨b, off, xs, ho, hB', hr, hx, hd⟩⟩ := h
  · exact ⟨oa, cap, hv, hc, .inl h0⟩
  · exact ⟨oa, cap, hv, hc, .inr ⟨b, off, xs, ho, by omega, hr, hx, hd⟩⟩
theorem Own.nil (w : World) (B : Nat) (oa : Option Addr) : Own w B (.slice oa 0 0) [] := ⟨oa, 0, rfl, Nat.le_refl _, .inl rfl⟩
theorem Own.row {w : World} {B b off n cap : Nat} {xs : List Nat} (hB : B ≤ b) (hr : Row w b xs) (hn : n ≤ cap) (hc : off + cap ≤ xs.length) : Own w B (.slice (some ⟨b, off, none⟩) n cap) ((xs.drop off).take n) := by
  have hl : ((xs.drop off).take n).length = n := by simp; omega
  exact ⟨_, cap, by rw [hl], by omega, .inr ⟨b, off, xs, rfl, hB, hr, hc, by rw [hl]⟩⟩
/-- A segment of a row. -/
def seg (xs : List Nat) (off n : Nat) : List Nat := (xs.drop off).take n
theorem seg_length {xs : List Nat} {off n : Nat} (h : off + n ≤ xs.length) : (seg xs off n).length = n := by simp [seg]; omega
theorem seg_succ {xs : List Nat} {off i : Nat} (h : off + i < xs.length) : val (seg xs off (i + 1)) = val (seg xs off i) + pw i * xs[off + i]?.getD 0 := by
  have := val_take_succ (xs := xs.drop off) (k := i) (by simp; omega)
  simpa [seg] using this
theorem seg_zero (xs : List Nat) (off : Nat) : val (seg xs off 0) = 0 := by simp [seg, val]
theorem seg_congr {xs ys : List Nat} {off n : Nat} (hl : xs.length = ys.length) (h : ∀ j, off ≤ j → j < off + n → xs[j]?.getD 0 = ys[j]?.getD 0) : seg xs off n = seg ys off n := by
  apply List.ext_getElem?
  intro i
  simp only [seg]
  by_cases hi : i < n
  · rw [List.getElem?_take_of_lt hi, List.getElem?_take_of_lt hi, List.getElem?_drop, List.getElem?_drop]
    by_cases hx : off + i < xs.length
    · have := h (off + i) (by omega) (by omega)
      rw [List.getElem?_eq_getElem hx, List.getElem?_eq_getElem (by omega : off + i < ys.length)] at this ⊢
      simpa using this
    · rw [List.getElem?_eq_none (by omega), List.getElem?_eq_none (by omega)]
  · rw [List.getElem?_eq_none (by simp; omega), List.getElem?_eq_none (by simp; omega)]
theorem seg_set {xs : List Nat} {off i d : Nat} : seg (xs.set (off + i) d) off i = seg xs off i :=
  seg_congr (by simp) (fun j h1 h2 => getD_set_other (by omega))
theorem seg_all (xs : List Nat) : seg xs 0 xs.length = xs := by simp [seg]
/-- The element type's row of the table. -/
theorem info32 : (Tryz.prog.info? 56).map (fun i => (i.zero, i.size, i.bytes)) = some (some (.int .u32 0), 1, 4) := by kernel_rfl
theorem cs_replicate (n : Nat) : madeCells #[.int .u32 0] n = cs (List.replicate n 0) := by
  apply Array.ext'
  rw [toList_madeCells_one]
  simp [cs, dv]
theorem mk_run (n : Nat) (h : n ≤ 35184372088832) (w : World) : (Instr.makeSlice 24 (.int .i64 (n : Int)) (.int .i64 (n : Int))).run Tryz.prog w =
    .ok (.slice (some ⟨w.heap.size, 0, none⟩) n n) (w.alloc (.cells (cs (List.replicate n 0)) 56)) := by
  obtain ⟨i0, hi, hz0, hz1, hz2⟩ := info_parts info32
  have := run_make (P := Tryz.prog) w 24 56 i0 (.int .u32 0) Tryz.underlying24 hi hz0 .i64 .i64 n n (by omega) (Int.le_refl _) (by rw [hz2]; omega) (by omega)
  rw [this, hz1]
  simp only [Int.toNat_natCast, Nat.mul_one, Value.cells, cs_replicate]
/-- 'make' at a length that the walk has written otherwise. -/
theorem mk_run' (L : Int) (n : Nat) (e : L = (n : Int)) (h : n ≤ 35184372088832) (w : World) : (Instr.makeSlice 24 (.int .i64 L) (.int .i64 L)).run Tryz.prog w =
    .ok (.slice (some ⟨w.heap.size, 0, none⟩) n n) (w.alloc (.cells (cs (List.replicate n 0)) 56)) := by
  subst e; exact mk_run n h w
theorem Row.new (w : World) (xs : List Nat) (ok : OK xs) : Row (w.alloc (.cells (cs xs) 56)) w.heap.size xs := by
  refine ⟨?_, ok⟩
  show (w.heap.push _)[w.heap.size]? = _
  simp
theorem Row.alloc {w : World} {b : Nat} {xs : List Nat} (h : Row w b xs) (o : Obj) : Row (w.alloc o) b xs :=
  h.below ((Below.refl w.heap.size w).alloc (Nat.le_refl _) o) h.lt
theorem setRow_row {w : World} {b : Nat} {xs ys : List Nat} (h : Row w b xs) (ok : OK ys) : Row (w.setRow b (cs ys)) b ys := by
  refine ⟨?_, ok⟩
  simp only [World.setRow, Array.getElem?_modify, h.1]
  simp
theorem setRow_only (w : World) (b : Nat) (c : Array Value) : Only b w (w.setRow b c) :=
  ⟨rfl, rfl, rfl, by simp [World.setRow], fun k hk => by simp only [World.setRow, Array.getElem?_modify]; rw [if_neg (Ne.symm hk)]⟩
theorem size32 : (Tryz.prog.info? 56).map (·.size) = some 1 := by kernel_rfl
/-- The built-in copy into a row of digits, of digits that are no more than the place for them. -/
theorem cp_run {w : World} {b off dLen dCap sCap ty : Nat} {xs ds : List Nat} {oa : Option Addr} (hr : Row w b xs) (ok : OK ds) (hc : Cells w oa ds) (hl : ds.length ≤ dLen) (hx : off + dLen ≤ xs.length) :
    ∃ w', (Builtin.copy_ #[24, 24] ty #[.slice (some ⟨b, off, none⟩) dLen dCap, .slice oa ds.length sCap]).run Tryz.prog w = .ok (.int .i64 (ds.length : Int)) w' ∧
      Row w' b (xs.take off ++ ds ++ xs.drop (off + ds.length)) ∧ Only b w w' := by
  have okn : OK (xs.take off ++ ds ++ xs.drop (off + ds.length)) := ((hr.2.take _).append ok).append (hr.2.drop _)
  by_cases hne : ds = []
  · subst hne
    have := run_copy_none (P := Tryz.prog) w 24 24 ty 56 (some ⟨b, off, none⟩) oa dLen dCap 0 sCap Tryz.underlying24 size32 (by simp)
    exact ⟨w, this, by simpa using hr, Only.refl _ _⟩
  · obtain ⟨b', off', ho, hcell⟩ := hc.resolve_left hne
    have hmin : Nat.min ds.length dLen = ds.length := Nat.min_eq_left hl
    have := run_copy_row (P := Tryz.prog) w 24 24 ty 56 b off dLen dCap ⟨b', off', none⟩ ds.length sCap (cs xs) 56 (ds.map dv) Tryz.underlying24 size32 hr.1 (by simp [hmin])
      (fun j v hj => by
        simp only [List.getElem?_map, Option.map_eq_some_iff] at hj
        obtain ⟨d, hd, rfl⟩ := hj
        have hjl : j < ds.length := by
          rcases Nat.lt_or_ge j ds.length with h | h
          · exact h
          · rw [List.getElem?_eq_none h] at hd; cases hd
        have e : (⟨b', off', none⟩ : Addr).add j = ⟨b', off' + j, none⟩ := by
          unfold Addr.add; split
          · rename_i h; subst h; rfl
          · rfl
        rw [e, hcell j hjl, hd]; rfl)
      (by simp [cs_size]; omega) (fun v hv => by simp only [List.mem_map] at hv; obtain ⟨d, _, rfl⟩ := hv; rfl)
    have e : (cs xs).toList.take off ++ ds.map dv ++ (cs xs).toList.drop (off + (ds.map dv).length) = (xs.take off ++ ds ++ xs.drop (off + ds.length)).map dv := by
      simp [cs, List.map_take, List.map_drop]
    rw [e] at this
    refine ⟨w.setRow b (cs (xs.take off ++ ds ++ xs.drop (off + ds.length))), ?_, setRow_row hr okn, setRow_only _ _ _⟩
    rw [ho, this, List.length_map]; rfl
theorem own_slice {w : World} {B : Nat} {e : TypeId} {v : Value} {n : Nat} {xs : List Value} (h : w.ownsRow B e 1 v n xs) : (v = .slice none 0 0 ∧ n = 0 ∧ xs = []) ∨
    ∃ g cap, v = .slice (some ⟨g, 0, none⟩) n cap ∧ B ≤ g ∧ n ≤ cap ∧ ∀ i, i < n → w.cell? ⟨g, i, none⟩ = xs[i]? := by
  rcases h.2 with ⟨h1, h2⟩ | ⟨g, cap, cur, hv, hg, hh, hn, hm, hs, ht⟩
  · exact .inl ⟨h1, h2, List.length_eq_zero_iff.1 (by have := h.1; omega)⟩
  · refine .inr ⟨g, cap, hv, hg, hn, fun i hi => ?_⟩
    rw [← ht, List.getElem?_take_of_lt (by omega)]
    simp [World.cell?, hh]
theorem own_frozen {w : World} {B g cap : Nat} {e : TypeId} {n : Nat} {xs : List Value} (h : w.ownsRow B e 1 (.slice (some ⟨g, 0, none⟩) n cap) n xs) (i : Nat) : w.frozen? ⟨g, i, none⟩ = false := by
  rcases h.2 with ⟨h1, h2⟩ | ⟨g', cap', cur, hv, hg, hh, hn, hm, hs, ht⟩
  · cases h1
  · cases hv
    simp [World.frozen?, hh]
theorem own_setCell {w : World} {B g cap : Nat} {e : TypeId} {n : Nat} {xs : List Value} (h : w.ownsRow B e 1 (.slice (some ⟨g, 0, none⟩) n cap) n xs) (i : Nat) (_hi : i < n) (u : Value) : (w.setCell ⟨g, i, none⟩ u).ownsRow B e 1 (.slice (some ⟨g, 0, none⟩) n cap) n (xs.set i u) := by
  obtain ⟨h0, h1⟩ := h
  refine ⟨by simpa using h0, ?_⟩
  rcases h1 with ⟨h1, h2⟩ | ⟨g', cap', cur, hv, hg, hh, hn, hm, hs, ht⟩
  · cases h1
  · cases hv
    refine .inr ⟨g, cap, cur.setIfInBounds i u, rfl, hg, ?_, hn, hm, by simpa using hs, ?_⟩
    · simp [World.setCell, Array.getElem?_modify, hh]
    · rw [← ht, Array.toList_setIfInBounds, List.take_set]
theorem OK_strip {ds : List Nat} (h : OK ds) : OK (strip ds) := by
  rw [strip_take]; exact h.take _
set_option maxHeartbeats 400000 in
set_option maxRecDepth 20000 in
theorem trim_any (oa : Option Addr) (cap : Nat) (ds : List Nat) (w : World) (hl : ds.length ≤ 1099511627776) (hc : ds.length ≤ cap) (hcell : Cells w oa ds) :
    Calls Tryz.prog 88 #[.slice oa ds.length cap] w fun e w' => e = .returned (.slice oa (strip ds).length cap) ∧ w = w' := by
  unfold Cells at hcell
  go_enter Tryz.func88, Tryz.ntmps88
  go_wp2
  go_loop [3] (fun n => ∃ k : Nat, k ≤ ds.length ∧ n = .int .i64 k ∧ ∀ i, k ≤ i → ds[i]?.getD 0 = 0) (fun n => (intOf n).toNat)
  case atStart => exact ⟨ds.length, Nat.le_refl _, rfl, fun i hi => by simp [List.getElem?_eq_none hi]⟩
  case round =>
    obtain ⟨k, hk, rfl, hz⟩ := hrel
    by_cases hk0 : 0 < k
    · obtain ⟨j, rfl⟩ : ∃ j, k = j + 1 := ⟨k - 1, by omega⟩
      have hne : ds ≠ [] := fun h => by rw [h] at hk; simp at hk
      obtain ⟨b, off, ho, hcell'⟩ := hcell.resolve_left hne
      subst ho
      have hcj := hcell' j (by omega)
      by_cases hd : ds[j]?.getD 0 = 0
      · rw [hd] at hcj
        go_wp2
        go_round
        case rel => exact ⟨j, by omega, by go_num, fun i hi => by rcases Nat.eq_or_lt_of_le hi with h | h; (· rw [← h]; exact hd); (· exact hz i h)⟩
        case measure => simp [intOf]
      · have hd' : ¬ ((ds[j]?.getD 0 : Nat) : Int) = 0 := by omega
        have hs : (strip ds).length = j + 1 := strip_length_of hk hz (.inr (by simpa using hd))
        go_wp2
        go_ret
        exact ⟨rfl, rfl⟩
    · obtain rfl : k = 0 := by omega
      have hs : (strip ds).length = 0 := strip_length_of hk hz (.inl rfl)
      go_wp2
      go_ret
      exact ⟨rfl, rfl⟩
theorem Cells.strip {w : World} {oa : Option Addr} {ds : List Nat} (h : Cells w oa ds) : Cells w oa (strip ds) := by
  rw [strip_take]; exact h.take _
set_option maxHeartbeats 400000 in
set_option maxRecDepth 20000 in
/-- Norm. -/
theorem norm_any (oa : Option Addr) (cap : Nat) (ds : List Nat) (w : World) (hl : ds.length ≤ 1099511627776) (hc : ds.length ≤ cap) (ok : OK ds) (hcell : Cells w oa ds) :
    Calls Tryz.prog 78 #[.slice oa ds.length cap] w fun e w' => e = .returned (.slice (some ⟨w.heap.size, 0, none⟩) (strip ds).length (strip ds).length) ∧ Row w' w.heap.size (strip ds) ∧ Below w.heap.size w w' := by
  have hsl := strip_length_le ds
  have hmk := mk_run (strip ds).length (by omega) w
  obtain ⟨w1, hcp, hrow, honly⟩ := cp_run (sCap := cap) (dCap := (strip ds).length) (ty := 3) (Row.new w (List.replicate (strip ds).length 0) (OK.replicate _ (by decide))) (OK_strip ok) (oa := oa) (off := 0) (hcell.strip.below ((Below.refl w.heap.size w).alloc (Nat.le_refl _) _) (Nat.le_refl _)) (Nat.le_refl _) (by simp)
  have hb : Below w.heap.size w w1 := ((Below.refl w.heap.size w).alloc (Nat.le_refl _) _).trans (honly.below (Nat.le_refl _))
  simp only [List.take_zero, List.nil_append, Nat.zero_add] at hrow
  rw [List.drop_eq_nil_of_le (by simp), List.append_nil] at hrow
  go_enter Tryz.func78, Tryz.ntmps78
  go_wp2_with (go_at_call 88; refine (trim_any _ _ _ _ hl hc hcell).mono ?_; rintro e w' ⟨rfl, rfl⟩)
  go_ret
  exact ⟨rfl, hrow, hb⟩
set_option maxHeartbeats 400000 in
set_option maxRecDepth 20000 in
theorem widen_any (oa : Option Addr) (cap : Nat) (ds : List Nat) (w : World) (hl : ds.length ≤ 1099511627776) (ok : OK ds) (hcell : Cells w oa ds) :
    Calls Tryz.prog 89 #[.slice oa ds.length cap] w fun e w' => e = .returned (.slice (some ⟨w.heap.size, 0, none⟩) (ds.length + 1) (ds.length + 1)) ∧ Row w' w.heap.size (ds ++ [0]) ∧ Below w.heap.size w w' := by
  have hmk := mk_run' ((ds.length : Int) + 1) (ds.length + 1) (by omega) (by omega) w
  obtain ⟨w1, hcp, hrow, honly⟩ := cp_run (sCap := cap) (dLen := ds.length + 1) (dCap := ds.length + 1) (ty := 3) (Row.new w (List.replicate (ds.length + 1) 0) (OK.replicate _ (by decide))) ok (oa := oa) (off := 0) (hcell.below ((Below.refl w.heap.size w).alloc (Nat.le_refl _) _) (Nat.le_refl _)) (by omega) (by simp)
  have hb : Below w.heap.size w w1 := ((Below.refl w.heap.size w).alloc (Nat.le_refl _) _).trans (honly.below (Nat.le_refl _))
  simp only [List.take_zero, List.nil_append, Nat.zero_add, List.drop_replicate, Nat.add_sub_cancel_left, List.replicate_one] at hrow
  go_enter Tryz.func89, Tryz.ntmps89
  go_wp2
  go_ret
  exact ⟨rfl, hrow, hb⟩
def sgI (c : Bool) : Int := if c then -1 else 1
theorem sign_any (c : Bool) (w : World) : Calls Tryz.prog 91 #[.bool c] w fun e w' => e = .returned (.int .i64 (sgI c)) ∧ w = w' := by
  cases c
  all_goals
    go_enter Tryz.func91, Tryz.ntmps91
    go_wp2
    go_ret
    exact ⟨rfl, rfl⟩
/-- What Cmp tells. -/
def cmpI (m n : Nat) : Int := if m < n then -1 else if m = n then 0 else 1
set_option maxHeartbeats 800000 in
set_option maxRecDepth 20000 in
theorem cmp_any (oa ob : Option Addr) (ca cb : Nat) (xs ys : List Nat) (w : World) (hxl : xs.length ≤ 1099511627776) (hyl : ys.length ≤ 1099511627776) (hxc : xs.length ≤ ca) (hyc : ys.length ≤ cb)
    (okx : OK xs) (oky : OK ys) (hx : Cells w oa xs) (hy : Cells w ob ys) :
    Calls Tryz.prog 65 #[.slice oa xs.length ca, .slice ob ys.length cb] w fun e w' => e = .returned (.int .i64 (cmpI (val xs) (val ys))) ∧ Below w.heap.size w w' := by
  have h1 := strip_length_le xs
  have h2 := strip_length_le ys
  have hx' := hx.strip
  have hy' := hy.strip
  have ex := dig_val okx
  have ey := dig_val oky
  generalize val xs = m at *
  generalize val ys = n at *
  have okX := OK_strip okx
  have HX := hide ex
  have HY := hide ey
  clear ex ey
  go_enter Tryz.func65, Tryz.ntmps65
  go_wp2_with fail
  refine (trim_any oa ca xs _ hxl hxc hx).mono ?_
  rintro e w' ⟨rfl, rfl⟩
  go_wp2_with fail
  refine (trim_any ob cb ys _ hyl hyc hy).mono ?_
  rintro e w' ⟨rfl, rfl⟩
  generalize strip xs = X at *
  generalize strip ys = Y at *
  by_cases hlen : X.length = Y.length
  · have hb : ((X.length : Int) == (Y.length : Int)) = true := by rw [beq_iff_eq]; omega
    have Hl := hide hlen
    clear hlen
    go_wp2_with fail
    go_loopw [5] (fun i wr => ∃ k : Nat, k ≤ X.length ∧ i = .int .i64 ((k : Int) - 1) ∧ X.drop k = Y.drop k ∧ Below w.heap.size w wr) (fun i _ => (intOf i + 1).toNat)
    case atStart => exact ⟨X.length, Nat.le_refl _, rfl, by rw [List.drop_eq_nil_of_le (Nat.le_refl _), List.drop_eq_nil_of_le (Nat.le_of_eq Hl.out.symm)], Below.refl _ _⟩
    case round =>
      obtain ⟨k, hk, rfl, hdr, hbel⟩ := hrel
      have Hdr := hide hdr
      clear hdr
      by_cases hk0 : 0 < k
      · obtain ⟨j, rfl⟩ : ∃ j, k = j + 1 := ⟨k - 1, by omega⟩
        have hl := Hl.out
        have b1 : j < X.length := by omega
        have b2 : j < Y.length := by omega
        obtain ⟨bx, ox, x, ho, gx, Hx⟩ := (hx'.below hbel (Nat.le_refl _)).get b1
        obtain ⟨by', oy, y, ho', gy, Hy⟩ := (hy'.below hbel (Nat.le_refl _)).get b2
        subst ho
        subst ho'
        rw [show ((j + 1 : Nat) : Int) - 1 = (j : Int) from by omega]
        clear hl
        by_cases hd : x = y
        · subst hd
          have hd' : ((x : Int) == (x : Int)) = true := by simp
          go_wp2_with fail
          go_region
          all_goals go_wp2_with fail
          go_roundw
          case rel => exact ⟨j, by omega, rfl, drop_eq_of_top Hl.out b1 Hdr.out (Hx.out.trans Hy.out.symm), hbel.drew⟩
          case measure => simp [intOf]
        · have hd' : ((x : Int) == (y : Int)) = false := by rw [beq_eq_false_iff_ne]; omega
          have HF : Hid (cmpI m n = sgI (decide (x < y))) := by
            have e1 := HX.out
            have e2 := HY.out
            have hl := Hl.out
            have hdr := Hdr.out
            have hx0 := Hx.out
            have hy0 := Hy.out
            have vx : val X = m := by rw [← e1, val_dig]
            have vy : val Y = n := by rw [← e2, val_dig]
            show cmpI m n = _
            unfold cmpI sgI
            by_cases hlt : x < y
            · have := val_lt_of_top okX hl b1 hdr (by omega)
              rw [vx, vy] at this
              simp [hlt, this]
            · have okY : OK Y := by rw [← e2]; exact OK_dig n
              have := val_lt_of_top okY hl.symm b2 hdr.symm (by omega)
              rw [vx, vy] at this
              simp only [hlt, decide_false, Bool.false_eq_true, if_false]
              rw [if_neg (by omega), if_neg (by omega)]
          go_wp2_with fail
          go_region
          all_goals go_wp2_with fail
          go_region_with (go_at_call 91; refine (sign_any _ _).mono ?_; rintro e w' ⟨rfl, rfl⟩)
          all_goals go_wp2
          all_goals go_ret
          all_goals exact ⟨congrArg (fun z : Int => Ending.returned (.int .i64 z)) HF.out.symm, hbel.drew.drew⟩
      · obtain rfl : k = 0 := by omega
        go_wp2
        go_ret
        have e1 := HX.out
        have e2 := HY.out
        have hdr := Hdr.out
        simp only [List.drop_zero] at hdr
        have : m = n := dig_inj (e1.trans (hdr.trans e2.symm))
        have hz : cmpI m n = 0 := by
          unfold cmpI
          rw [if_neg (by omega), if_pos this]
        exact ⟨congrArg (fun z : Int => Ending.returned (.int .i64 z)) hz.symm, hbel⟩
  · have hb : ((X.length : Int) == (Y.length : Int)) = false := by rw [beq_eq_false_iff_ne]; omega
    go_wp2_with fail
    refine (sign_any _ _).mono ?_
    rintro e w' ⟨rfl, rfl⟩
    go_wp2
    go_ret
    refine ⟨?_, Below.refl _ _⟩
    have e1 := HX.out
    have e2 := HY.out
    subst e1
    subst e2
    refine congrArg (fun z : Int => Ending.returned (.int .i64 z)) ?_
    unfold cmpI sgI
    by_cases hlt : (dig m).length < (dig n).length
    · have := lt_of_length_lt hlt
      simp [hlt, this]
    · have := lt_of_length_lt (show (dig n).length < (dig m).length by omega)
      simp only [hlt, decide_false, Bool.false_eq_true, if_false]
      rw [if_neg (by omega), if_neg (by omega)]
theorem seg_split {xs : List Nat} {off k n : Nat} (h : k ≤ n) (hl : off + n ≤ xs.length) : val (seg xs off n) = val (seg xs off k) + pw k * val (seg xs (off + k) (n - k)) := by
  have e : seg xs off n = seg xs off k ++ seg xs (off + k) (n - k) := by
    simp only [seg]
    rw [← List.drop_drop]
    have := List.take_append_drop k ((xs.drop off).take n)
    rw [List.take_take, Nat.min_eq_left h, List.drop_take] at this
    exact this.symm
  rw [e, val_append, seg_length (by omega)]
/-- Where nothing above digit k has turned, the values part as they do below it. -/
theorem seg_ext {us ys : List Nat} {off k n : Nat} (h : k ≤ n) (hl : ys.length = us.length) (hn : off + n ≤ us.length) (hout : ∀ j, j < off ∨ off + k ≤ j → ys[j]?.getD 0 = us[j]?.getD 0) :
    val (seg ys off n) + val (seg us off k) = val (seg us off n) + val (seg ys off k) := by
  have e : seg ys (off + k) (n - k) = seg us (off + k) (n - k) := seg_congr hl (fun j h1 _ => hout j (.inr h1))
  rw [seg_split h (by omega : off + n ≤ ys.length), seg_split h hn, e]
  omega
/-- One digit with its carry laid at place k. -/
theorem carry_step {us ys : List Nat} {off k c0 p t D : Nat} (hy : off + k < ys.length) (hl : ys.length = us.length) (heq : val (seg ys off k) + pw k * c0 = val (seg us off k) + D) (ht : t = c0 + (p + us[off + k]?.getD 0)) :
    val (seg (ys.set (off + k) (t % 4294967296)) off (k + 1)) + pw (k + 1) * (t / 4294967296) = val (seg us off (k + 1)) + (D + pw k * p) := by
  rw [seg_succ (by simpa using hy), seg_set, getD_set_same hy, seg_succ (by omega)]
  simp only [pw]
  have e1 : pw k * t = pw k * (t % 4294967296) + 4294967296 * pw k * (t / 4294967296) := by
    conv => lhs; rw [← Nat.mod_add_div t 4294967296]
    rw [Nat.mul_add, Nat.mul_comm 4294967296 (pw k), Nat.mul_assoc]
  have e2 : pw k * t = pw k * c0 + (pw k * p + pw k * us[off + k]?.getD 0) := by rw [ht, Nat.mul_add, Nat.mul_add]
  omega
set_option maxHeartbeats 1600000 in
set_option maxRecDepth 20000 in
/-- addTimes: d times v onto the n digits of u, in place; the carry. -/
theorem addTimes_any (b off n cap : Nat) (us vs : List Nat) (ov : Option Addr) (cv d : Nat) (w : World) (hn : n ≤ 1099511627776) (hnc : n ≤ cap) (hrow : Row w b us) (hul : off + n ≤ us.length) (hus : us.length ≤ 4398046511104)
    (_hvc : vs.length ≤ cv) (hvl : vs.length ≤ n) (okv : OK vs) (hv : Cells w ov vs) (hoff : vs ≠ [] → Off b ov) (hd : d < 4294967296) :
    Calls Tryz.prog 90 #[.slice (some ⟨b, off, none⟩) n cap, .slice ov vs.length cv, .int .u32 (d : Int)] w fun e w' =>
      ∃ c us', e = .returned (.int .u64 ((c : Nat) : Int)) ∧ Row w' b us' ∧ Only b w w' ∧ us'.length = us.length ∧ (∀ j, j < off ∨ off + n ≤ j → us'[j]?.getD 0 = us[j]?.getD 0) ∧
        val (seg us' off n) + pw n * c = val (seg us off n) + d * val vs := by
  go_enter Tryz.func90, Tryz.ntmps90
  go_wp2_with fail
  go_loopw [7, 13] (fun c i wr => ∃ (k c0 : Nat) (ys : List Nat), k ≤ vs.length ∧ c = .int .u64 (c0 : Int) ∧ i = .int .i64 (k : Int) ∧ Row wr b ys ∧ Only b w wr ∧ ys.length = us.length ∧
      (∀ j, j < off ∨ off + k ≤ j → ys[j]?.getD 0 = us[j]?.getD 0) ∧ val (seg ys off k) + pw k * c0 = val (seg us off k) + d * val (vs.take k) ∧ c0 < 4294967296) (fun _ i _ => vs.length - (intOf i).toNat)
  case atStart => exact ⟨0, 0, us, Nat.zero_le _, rfl, rfl, hrow, Only.refl _ _, rfl, fun _ _ => rfl, by simp [seg_zero, val], by decide⟩
  case round =>
    obtain ⟨k, c0, ys, hk, rfl, rfl, hr, ho, hyl, hout, heq, hc0⟩ := hrel
    have Heq := hide heq
    have Hout := hide hout
    have Hyl := hide hyl
    clear heq hout
    by_cases hlt : k < vs.length
    · obtain ⟨bv, offv, x, hov, gx, Hx⟩ := (hv.only ho (hoff (fun e => by rw [e] at hlt; simp at hlt))).get hlt
      have gu := hr.cell (i := off + k) (by omega)
      have gf := hr.free (off + k)
      obtain ⟨y, Hy⟩ : ∃ y, Hid (ys[off + k]?.getD 0 = y) := ⟨_, rfl⟩
      rw [Hy.out] at gu
      have hyb : y < 4294967296 := by have := hr.2.get (off + k); rw [Hy.out] at this; exact this
      have hxb : x < 4294967296 := by have := okv.get k; rw [Hx.out] at this; exact this
      have hm : (x : Int) * (d : Int) ≤ 18446744065119617025 := by
        have : x * d ≤ 4294967295 * 4294967295 := Nat.mul_le_mul (by omega) (by omega)
        have h2 : ((x * d : Nat) : Int) ≤ 18446744065119617025 := by omega
        simpa using h2
      have hm0 : 0 ≤ (x : Int) * (d : Int) := by have := Int.natCast_nonneg (x * d); simpa using this
      have hkn : k < n := by omega
      subst hov
      clear hyl
      have hs := carry_step (p := x * d) (t := c0 + (x * d + y)) (by have := Hyl.out; omega) Hyl.out Heq.out (by have h1 := Hout.out (off + k) (by omega); have h2 := Hy.out; rw [← h1, h2])
      have ht : d * val (vs.take k) + pw k * (x * d) = d * val (vs.take (k + 1)) := by
        rw [val_take_succ hlt, Hx.out, Nat.mul_add, Nat.mul_left_comm d, Nat.mul_comm d x]
      rw [ht] at hs
      have e1 : ((c0 : Int) + ((x : Int) * (d : Int) + (y : Int))) / 4294967296 = ((((c0 + (x * d + y)) / 4294967296) : Nat) : Int) := by simp
      have e2 : ((c0 : Int) + ((x : Int) * (d : Int) + (y : Int))) % 4294967296 = ((((c0 + (x * d + y)) % 4294967296) : Nat) : Int) := by simp
      have hq : (c0 + (x * d + y)) / 4294967296 < 4294967296 := by
        have : x * d ≤ 4294967295 * 4294967295 := Nat.mul_le_mul (by omega) (by omega)
        omega
      have HS := hide hs
      have E1 := hide e1
      have E2 := hide e2
      clear hs ht e1 e2
      go_wp2
      rw [E1.out, E2.out]
      go_roundw
      case rel =>
        exact ⟨k + 1, _, ys.set (off + k) ((c0 + (x * d + y)) % 4294967296), hlt, rfl, by go_num, hr.set _ (by omega), ho.setCell _ _, by simpa using Hyl.out,
          fun j hj => by rw [getD_set_other (by omega)]; exact Hout.out j (by omega), HS.out, hq⟩
      case measure => simp [intOf]; omega
    · obtain rfl : k = vs.length := by omega
      go_wp2_with fail
      go_loopw [7, 10] (fun c i wr => ∃ (k c0 : Nat) (ys : List Nat), vs.length ≤ k ∧ k ≤ n ∧ c = .int .u64 (c0 : Int) ∧ i = .int .i64 (k : Int) ∧ Row wr b ys ∧ Only b w wr ∧ ys.length = us.length ∧
        (∀ j, j < off ∨ off + k ≤ j → ys[j]?.getD 0 = us[j]?.getD 0) ∧ val (seg ys off k) + pw k * c0 = val (seg us off k) + d * val vs ∧ c0 < 4294967296) (fun _ i _ => n - (intOf i).toNat)
      case atStart => exact ⟨vs.length, c0, ys, Nat.le_refl _, hvl, rfl, rfl, hr, ho, Hyl.out, Hout.out, by have := Heq.out; rwa [List.take_length] at this, hc0⟩
      case round =>
        clear hr ho Heq Hout Hyl hc0 hlt hk
        obtain ⟨k, c0, ys, hk1, hk, rfl, rfl, hr, ho, hyl, hout, heq, hc0⟩ := hrel
        have Heq := hide heq
        have Hout := hide hout
        have Hyl := hide hyl
        clear heq hout
        by_cases hc : c0 = 0
        · subst hc
          have hfin : val (seg ys off n) + pw n * 0 = val (seg us off n) + d * val vs := by
            have h1 := seg_ext hk hyl hul Hout.out
            have h2 := Heq.out
            omega
          go_wp2
          go_ret
          exact ⟨0, ys, rfl, hr, ho, hyl, fun j hj => Hout.out j (by omega), hfin⟩
        · have hcb : ((c0 : Int) == 0) = false := by rw [beq_eq_false_iff_ne]; omega
          by_cases hlt : k < n
          · have gu := hr.cell (i := off + k) (by omega)
            have gf := hr.free (off + k)
            obtain ⟨y, Hy⟩ : ∃ y, Hid (ys[off + k]?.getD 0 = y) := ⟨_, rfl⟩
            rw [Hy.out] at gu
            have hyb : y < 4294967296 := by have := hr.2.get (off + k); rw [Hy.out] at this; exact this
            have hs := carry_step (p := 0) (t := c0 + (0 + y)) (by omega) hyl Heq.out (by have h1 := Hout.out (off + k) (by omega); have h2 := Hy.out; rw [← h1, h2])
            simp only [Nat.zero_add, Nat.mul_zero, Nat.add_zero] at hs
            have e1 : ((c0 : Int) + (y : Int)) / 4294967296 = ((((c0 + y) / 4294967296) : Nat) : Int) := by simp
            have e2 : ((c0 : Int) + (y : Int)) % 4294967296 = ((((c0 + y) % 4294967296) : Nat) : Int) := by simp
            have HS := hide hs
            have E1 := hide e1
            have E2 := hide e2
            clear hs e1 e2 hyl
            go_wp2
            rw [E1.out, E2.out]
            go_roundw
            case rel =>
              exact ⟨k + 1, _, ys.set (off + k) ((c0 + y) % 4294967296), by omega, hlt, rfl, by go_num, hr.set _ (by omega), ho.setCell _ _, by simpa using Hyl.out,
                fun j hj => by rw [getD_set_other (by omega)]; exact Hout.out j (by omega), HS.out, by omega⟩
            case measure => simp [intOf]; omega
          · obtain rfl : k = n := by omega
            go_wp2
            go_ret
            exact ⟨c0, ys, rfl, hr, ho, hyl, Hout.out, Heq.out⟩
set_option maxHeartbeats 400000 in
set_option maxRecDepth 20000 in
theorem wrapped_any (L : Int) (w : World) :
    Calls Tryz.prog 114 #[.int .u64 L] w fun e w' => e = .returned (.int .u64 (L / 9223372036854775808)) ∧ w = w' := by
  go_enter Tryz.func114, Tryz.ntmps114
  go_wp2
  go_ret
  exact ⟨rfl, rfl⟩
/-- One digit with what is owed taken off at place k. -/
theorem borrow_step {us ys : List Nat} {off k c0 p D g q : Nat} (hy : off + k < ys.length) (hl : ys.length = us.length) (heq : val (seg ys off k) + D = val (seg us off k) + pw k * c0)
    (ht : g + (c0 + p) = us[off + k]?.getD 0 + 4294967296 * q) :
    val (seg (ys.set (off + k) g) off (k + 1)) + (D + pw k * p) = val (seg us off (k + 1)) + pw (k + 1) * q := by
  rw [seg_succ (by simpa using hy), seg_set, getD_set_same hy, seg_succ (by omega)]
  simp only [pw]
  have e1 : pw k * (g + (c0 + p)) = pw k * (us[off + k]?.getD 0 + 4294967296 * q) := by rw [ht]
  rw [Nat.mul_add, Nat.mul_add, Nat.mul_add, ← Nat.mul_assoc, Nat.mul_comm (pw k) 4294967296] at e1
  omega
set_option maxHeartbeats 1600000 in
set_option maxRecDepth 20000 in
/-- takeTimes: d times v off the n digits of u, in place; what is still owed. -/
theorem takeTimes_any (b off n cap : Nat) (us vs : List Nat) (ov : Option Addr) (cv d : Nat) (w : World) (hn : n ≤ 1099511627776) (hnc : n ≤ cap) (hrow : Row w b us) (hul : off + n ≤ us.length) (hus : us.length ≤ 4398046511104)
    (_hvc : vs.length ≤ cv) (hvl : vs.length ≤ n) (okv : OK vs) (hv : Cells w ov vs) (hoff : vs ≠ [] → Off b ov) (hd : d < 4294967296) :
    Calls Tryz.prog 92 #[.slice (some ⟨b, off, none⟩) n cap, .slice ov vs.length cv, .int .u32 (d : Int)] w fun e w' =>
      ∃ c us', e = .returned (.int .u64 ((c : Nat) : Int)) ∧ c ≤ 4294967296 ∧ Row w' b us' ∧ Only b w w' ∧ us'.length = us.length ∧ (∀ j, j < off ∨ off + n ≤ j → us'[j]?.getD 0 = us[j]?.getD 0) ∧
        val (seg us' off n) + d * val vs = val (seg us off n) + pw n * c := by
  go_enter Tryz.func92, Tryz.ntmps92
  go_wp2_with fail
  go_loopw [7, 15] (fun c i wr => ∃ (k c0 : Nat) (ys : List Nat), k ≤ vs.length ∧ c = .int .u64 (c0 : Int) ∧ i = .int .i64 (k : Int) ∧ Row wr b ys ∧ Only b w wr ∧ ys.length = us.length ∧
      (∀ j, j < off ∨ off + k ≤ j → ys[j]?.getD 0 = us[j]?.getD 0) ∧ val (seg ys off k) + d * val (vs.take k) = val (seg us off k) + pw k * c0 ∧ c0 ≤ 4294967296) (fun _ i _ => vs.length - (intOf i).toNat)
  case atStart => exact ⟨0, 0, us, Nat.zero_le _, rfl, rfl, hrow, Only.refl _ _, rfl, fun _ _ => rfl, by simp [seg_zero, val], by decide⟩
  case round =>
    obtain ⟨k, c0, ys, hk, rfl, rfl, hr, ho, hyl, hout, heq, hc0⟩ := hrel
    have Heq := hide heq
    have Hout := hide hout
    have Hyl := hide hyl
    clear heq hout
    by_cases hlt : k < vs.length
    · obtain ⟨bv, offv, x, hov, gx, Hx⟩ := (hv.only ho (hoff (fun e => by rw [e] at hlt; simp at hlt))).get hlt
      have gu := hr.cell (i := off + k) (by omega)
      have gf := hr.free (off + k)
      obtain ⟨y, Hy⟩ : ∃ y, Hid (ys[off + k]?.getD 0 = y) := ⟨_, rfl⟩
      rw [Hy.out] at gu
      have hyb : y < 4294967296 := by have := hr.2.get (off + k); rw [Hy.out] at this; exact this
      have hxb : x < 4294967296 := by have := okv.get k; rw [Hx.out] at this; exact this
      have hm : (x : Int) * (d : Int) ≤ 18446744065119617025 := by
        have : x * d ≤ 4294967295 * 4294967295 := Nat.mul_le_mul (by omega) (by omega)
        have h2 : ((x * d : Nat) : Int) ≤ 18446744065119617025 := by omega
        simpa using h2
      have hm0 : 0 ≤ (x : Int) * (d : Int) := by have := Int.natCast_nonneg (x * d); simpa using this
      have hkn : k < n := by omega
      subst hov
      clear hyl
      have hT : x * d ≤ 4294967295 * 4294967295 := Nat.mul_le_mul (by omega) (by omega)
      have eq1 : ((c0 : Int) + (x : Int) * (d : Int)) % 4294967296 = ((((c0 + x * d) % 4294967296) : Nat) : Int) := by simp
      have eq2 : ((c0 : Int) + (x : Int) * (d : Int)) / 4294967296 = ((((c0 + x * d) / 4294967296) : Nat) : Int) := by simp
      have EQ1 := hide eq1
      have EQ2 := hide eq2
      have htt : d * val (vs.take k) + pw k * (x * d) = d * val (vs.take (k + 1)) := by
        rw [val_take_succ hlt, Hx.out, Nat.mul_add, Nat.mul_left_comm d, Nat.mul_comm d x]
      have Htt := hide htt
      clear htt eq2
      by_cases hlo : y < (c0 + x * d) % 4294967296
      · have hlo' : (y : Int) - ((c0 : Int) + (x : Int) * (d : Int)) % 4294967296 < 0 := by omega
        have hs := borrow_step (p := x * d) (g := y + 4294967296 - (c0 + x * d) % 4294967296) (q := (c0 + x * d) / 4294967296 + 1) (by have := Hyl.out; omega) Hyl.out Heq.out (by have h1 := Hout.out (off + k) (by omega); have h2 := Hy.out; rw [← h1, h2]; omega)
        rw [Htt.out] at hs
        have HS := hide hs
        have hL : IntKind.u64.wrap ((y : Int) - ((c0 : Int) + (x : Int) * (d : Int)) % 4294967296) / 9223372036854775808 = 1 := by rw [IntKind.wrap_u64]; omega
        have hG : IntKind.u64.wrap ((y : Int) - ((c0 : Int) + (x : Int) * (d : Int)) % 4294967296) % 4294967296 = ((y + 4294967296 - (c0 + x * d) % 4294967296 : Nat) : Int) := by rw [IntKind.wrap_u64]; omega
        have HL := hide hL
        have HG := hide hG
        clear hL hG hs eq1
        go_wp2_with fail
        rw [HG.out]
        refine (wrapped_any _ _).mono ?_
        rintro e w' ⟨rfl, rfl⟩
        rw [HL.out]
        go_wp2
        rw [EQ2.out]
        go_roundw
        case rel =>
          exact ⟨k + 1, _, ys.set (off + k) (y + 4294967296 - (c0 + x * d) % 4294967296), hlt, by go_num, by go_num, hr.set _ (by omega), ho.setCell _ _, by simpa using Hyl.out,
            fun j hj => by rw [getD_set_other (by omega)]; exact Hout.out j (by omega), HS.out, by omega⟩
        case measure => simp [intOf]; omega
      · have hlo' : 0 ≤ (y : Int) - ((c0 : Int) + (x : Int) * (d : Int)) % 4294967296 := by omega
        have hs := borrow_step (p := x * d) (g := y - (c0 + x * d) % 4294967296) (q := (c0 + x * d) / 4294967296) (by have := Hyl.out; omega) Hyl.out Heq.out (by have h1 := Hout.out (off + k) (by omega); have h2 := Hy.out; rw [← h1, h2]; omega)
        rw [Htt.out] at hs
        have HS := hide hs
        have hL : ((y : Int) - ((c0 : Int) + (x : Int) * (d : Int)) % 4294967296) / 9223372036854775808 = 0 := by omega
        have hG : (y : Int) - ((c0 : Int) + (x : Int) * (d : Int)) % 4294967296 = ((y - (c0 + x * d) % 4294967296 : Nat) : Int) := by omega
        have HL := hide hL
        have HG := hide hG
        clear hL hG hs eq1
        go_wp2_with fail
        refine (wrapped_any _ _).mono ?_
        rintro e w' ⟨rfl, rfl⟩
        rw [HL.out, HG.out]
        go_wp2
        rw [EQ2.out]
        go_roundw
        case rel =>
          exact ⟨k + 1, _, ys.set (off + k) (y - (c0 + x * d) % 4294967296), hlt, by go_num, by go_num, hr.set _ (by omega), ho.setCell _ _, by simpa using Hyl.out,
            fun j hj => by rw [getD_set_other (by omega)]; exact Hout.out j (by omega), HS.out, by omega⟩
        case measure => simp [intOf]; omega
    · obtain rfl : k = vs.length := by omega
      go_wp2_with fail
      go_loopw [7, 11] (fun c i wr => ∃ (k c0 : Nat) (ys : List Nat), vs.length ≤ k ∧ k ≤ n ∧ c = .int .u64 (c0 : Int) ∧ i = .int .i64 (k : Int) ∧ Row wr b ys ∧ Only b w wr ∧ ys.length = us.length ∧
        (∀ j, j < off ∨ off + k ≤ j → ys[j]?.getD 0 = us[j]?.getD 0) ∧ val (seg ys off k) + d * val vs = val (seg us off k) + pw k * c0 ∧ c0 ≤ 4294967296) (fun _ i _ => n - (intOf i).toNat)
      case atStart => exact ⟨vs.length, c0, ys, Nat.le_refl _, hvl, rfl, rfl, hr, ho, Hyl.out, Hout.out, by have := Heq.out; rwa [List.take_length] at this, hc0⟩
      case round =>
        clear hr ho Heq Hout Hyl hc0 hlt hk
        obtain ⟨k, c0, ys, hk1, hk, rfl, rfl, hr, ho, hyl, hout, heq, hc0⟩ := hrel
        have Heq := hide heq
        have Hout := hide hout
        have Hyl := hide hyl
        clear heq hout
        by_cases hc : c0 = 0
        · subst hc
          have hfin : val (seg ys off n) + d * val vs = val (seg us off n) + pw n * 0 := by
            have h1 := seg_ext hk hyl hul Hout.out
            have h2 := Heq.out
            omega
          go_wp2
          go_ret
          exact ⟨0, ys, rfl, by decide, hr, ho, hyl, fun j hj => Hout.out j (by omega), hfin⟩
        · have hcb : ((c0 : Int) == 0) = false := by rw [beq_eq_false_iff_ne]; omega
          by_cases hlt : k < n
          · have gu := hr.cell (i := off + k) (by omega)
            have gf := hr.free (off + k)
            obtain ⟨y, Hy⟩ : ∃ y, Hid (ys[off + k]?.getD 0 = y) := ⟨_, rfl⟩
            rw [Hy.out] at gu
            have hyb : y < 4294967296 := by have := hr.2.get (off + k); rw [Hy.out] at this; exact this
            by_cases hlo : y < c0
            · have hlo' : (y : Int) - (c0 : Int) < 0 := by omega
              have hs := borrow_step (p := 0) (g := y + 4294967296 - c0) (q := 1) (by omega) hyl Heq.out (by have h1 := Hout.out (off + k) (by omega); have h2 := Hy.out; rw [← h1, h2]; omega)
              simp only [Nat.mul_zero, Nat.add_zero] at hs
              have HS := hide hs
              have hL : IntKind.u64.wrap ((y : Int) - (c0 : Int)) / 9223372036854775808 = 1 := by rw [IntKind.wrap_u64]; omega
              have hG : IntKind.u64.wrap ((y : Int) - (c0 : Int)) % 4294967296 = ((y + 4294967296 - c0 : Nat) : Int) := by rw [IntKind.wrap_u64]; omega
              have HL := hide hL
              have HG := hide hG
              clear hL hG hs hyl
              go_wp2_with fail
              rw [HG.out]
              refine (wrapped_any _ _).mono ?_
              rintro e w' ⟨rfl, rfl⟩
              rw [HL.out]
              go_wp2
              go_roundw
              case rel =>
                exact ⟨k + 1, 1, ys.set (off + k) (y + 4294967296 - c0), by omega, hlt, rfl, by go_num, hr.set _ (by omega), ho.setCell _ _, by simpa using Hyl.out,
                  fun j hj => by rw [getD_set_other (by omega)]; exact Hout.out j (by omega), HS.out, by omega⟩
              case measure => simp [intOf]; omega
            · have hlo' : 0 ≤ (y : Int) - (c0 : Int) := by omega
              have hs := borrow_step (p := 0) (g := y - c0) (q := 0) (by omega) hyl Heq.out (by have h1 := Hout.out (off + k) (by omega); have h2 := Hy.out; rw [← h1, h2]; omega)
              simp only [Nat.mul_zero, Nat.add_zero] at hs
              have HS := hide hs
              have hL : ((y : Int) - (c0 : Int)) / 9223372036854775808 = 0 := by omega
              have hG : (y : Int) - (c0 : Int) = ((y - c0 : Nat) : Int) := by omega
              have HL := hide hL
              have HG := hide hG
              clear hL hG hs hyl
              go_wp2_with fail
              refine (wrapped_any _ _).mono ?_
              rintro e w' ⟨rfl, rfl⟩
              rw [HL.out, HG.out]
              go_wp2
              go_roundw
              case rel =>
                exact ⟨k + 1, 0, ys.set (off + k) (y - c0), by omega, hlt, rfl, by go_num, hr.set _ (by omega), ho.setCell _ _, by simpa using Hyl.out,
                  fun j hj => by rw [getD_set_other (by omega)]; exact Hout.out j (by omega), HS.out, by omega⟩
              case measure => simp [intOf]; omega
          · obtain rfl : k = n := by omega
            go_wp2
            go_ret
            exact ⟨c0, ys, rfl, hc0, hr, ho, hyl, Hout.out, Heq.out⟩
theorem Own.strip {w : World} {B b : Nat} {xs : List Nat} (hB : B ≤ b) (hr : Row w b xs) : Own w B (.slice (some ⟨b, 0, none⟩) (strip xs).length xs.length) (strip xs) := by
  have := Own.row (off := 0) (n := (Dig.strip xs).length) (cap := xs.length) hB hr (strip_length_le _) (by omega)
  rw [List.drop_zero, ← strip_take] at this
  exact this
theorem val_snoc_zero (X : List Nat) : val (X ++ [0]) = val X := by rw [val_append]; simp [val]
theorem Cells.lt_block {w : World} {b off : Nat} {ds : List Nat} (h : Cells w (some ⟨b, off, none⟩) ds) (hne : ds ≠ []) : b < w.heap.size := by
  obtain ⟨b', off', ho, hc⟩ := h.resolve_left hne
  cases ho
  exact Cells.lt hc hne
/-- What can be read in w does not lie in a block that is not there yet. -/
theorem Cells.off_new {w : World} {oa : Option Addr} {ds : List Nat} (h : Cells w oa ds) {b : Nat} (hb : w.heap.size ≤ b) (hne : ds ≠ []) : Off b oa := by
  obtain ⟨b', off', ho, hc⟩ := h.resolve_left hne
  have := Cells.lt hc hne
  intro a ha
  rw [ho] at ha
  cases ha
  show b' ≠ b
  omega
theorem trim_n (oa : Option Addr) (n cap : Nat) (ds : List Nat) (w : World) (e : ds.length = n) (hl : n ≤ 1099511627776) (hc : n ≤ cap) (hcell : Cells w oa ds) :
    Calls Tryz.prog 88 #[.slice oa n cap] w fun e w' => e = .returned (.slice oa (strip ds).length cap) ∧ w = w' := by
  subst e; exact trim_any oa cap ds w hl hc hcell
theorem Row.cells {w : World} {b : Nat} {xs : List Nat} (h : Row w b xs) : Cells w (some ⟨b, 0, none⟩) xs := by
  have := Cells.of_row (off := 0) (n := xs.length) h (by omega)
  simpa using this
theorem Own.strip' {w : World} {B b n : Nat} {xs : List Nat} (hB : B ≤ b) (hr : Row w b xs) (hn : xs.length = n) : Own w B (.slice (some ⟨b, 0, none⟩) (Dig.strip xs).length n) (Dig.strip xs) := by
  subst hn; exact Own.strip hB hr
theorem add_fin {X Y us : List Nat} {c : Nat} (okX : OK X) (okY : OK Y) (ok : OK us) (hl : Y.length ≤ X.length) (h : us.length = (X ++ [0]).length)
    (heq : val (seg us 0 (X.length + 1)) + pw (X.length + 1) * c = val (seg (X ++ [0]) 0 (X.length + 1)) + 1 * val Y) : strip us = dig (val X + val Y) := by
  have e1 : seg us 0 (X.length + 1) = us := by have := seg_all us; rw [h] at this; simpa using this
  have e2 : seg (X ++ [0]) 0 (X.length + 1) = X ++ [0] := by have := seg_all (X ++ [0]); simpa using this
  rw [e1, e2, val_snoc_zero, Nat.one_mul] at heq
  have h1 := val_lt okX
  have h2 := val_lt okY
  have h3 := pw_mono hl
  have hc : c = 0 := by
    rcases Nat.eq_zero_or_pos c with hc | hc
    · exact hc
    · have h4 : pw (X.length + 1) * 1 ≤ pw (X.length + 1) * c := Nat.mul_le_mul_left _ hc
      simp only [pw] at h4 heq
      omega
  subst hc
  rw [← dig_val ok]
  congr 1
set_option maxHeartbeats 800000 in
set_option maxRecDepth 20000 in
/-- Add. -/
theorem add_any (oa ob : Option Addr) (ca cb : Nat) (xs ys : List Nat) (w : World) (hxl : xs.length ≤ 1000000000000) (hyl : ys.length ≤ 1000000000000) (hxc : xs.length ≤ ca) (hyc : ys.length ≤ cb)
    (okx : OK xs) (oky : OK ys) (hx : Cells w oa xs) (hy : Cells w ob ys) :
    Calls Tryz.prog 64 #[.slice oa xs.length ca, .slice ob ys.length cb] w fun e w' => ∃ v, e = .returned v ∧ Own w' w.heap.size v (dig (val xs + val ys)) ∧ Below w.heap.size w w' := by
  have h1 := strip_length_le xs
  have h2 := strip_length_le ys
  have hx' := hx.strip
  have hy' := hy.strip
  have ex := val_strip xs
  have ey := val_strip ys
  have okX := OK_strip okx
  have okY := OK_strip oky
  generalize val xs = m at *
  generalize val ys = n at *
  have HX := hide ex
  have HY := hide ey
  clear ex ey
  go_enter Tryz.func64, Tryz.ntmps64
  go_wp2_with fail
  refine (trim_any oa ca xs _ (by omega) hxc hx).mono ?_
  rintro e w' ⟨rfl, rfl⟩
  go_wp2_with fail
  refine (trim_any ob cb ys _ (by omega) hyc hy).mono ?_
  rintro e w' ⟨rfl, rfl⟩
  generalize strip xs = X at *
  generalize strip ys = Y at *
  by_cases hlt : X.length < Y.length
  · go_wp2_with fail
    refine (widen_any ob cb Y w (by omega) okY hy').mono ?_
    rintro e w1 ⟨rfl, hrow, hb⟩
    go_wp2_with fail
    refine (addTimes_any w.heap.size 0 (Y.length + 1) (Y.length + 1) (Y ++ [0]) X oa ca 1 w1 (by omega) (Nat.le_refl _) hrow (by simp) (by simp; omega) (by omega) (by omega) okX (hx'.below hb (Nat.le_refl _)) (fun hne => hx'.off_new (Nat.le_refl _) hne) (by decide)).mono ?_
    rintro e w2 ⟨c, us', rfl, hrow2, hon, hul, _, heq⟩
    go_wp2_with fail
    have hlen : us'.length = Y.length + 1 := by rw [hul]; simp
    refine (trim_n _ _ _ us' w2 hlen (by omega) (Nat.le_refl _) hrow2.cells).mono ?_
    rintro e w' ⟨rfl, rfl⟩
    have hfin := add_fin okY okX hrow2.2 (by omega) hul heq
    have hown := Own.strip' (Nat.le_refl w.heap.size) hrow2 hlen
    rw [hfin, HX.out, HY.out, Nat.add_comm] at hown
    have hbb := hb.trans (hon.below (Nat.le_refl w.heap.size))
    have HF := hide hfin
    clear hfin heq hlen hul
    go_wp2
    go_ret
    exact ⟨_, rfl, by rw [HF.out, HX.out, HY.out, Nat.add_comm]; exact hown, hbb⟩
  · go_wp2_with fail
    refine (widen_any oa ca X w (by omega) okX hx').mono ?_
    rintro e w1 ⟨rfl, hrow, hb⟩
    go_wp2_with fail
    refine (addTimes_any w.heap.size 0 (X.length + 1) (X.length + 1) (X ++ [0]) Y ob cb 1 w1 (by omega) (Nat.le_refl _) hrow (by simp) (by simp; omega) (by omega) (by omega) okY (hy'.below hb (Nat.le_refl _)) (fun hne => hy'.off_new (Nat.le_refl _) hne) (by decide)).mono ?_
    rintro e w2 ⟨c, us', rfl, hrow2, hon, hul, _, heq⟩
    go_wp2_with fail
    have hlen : us'.length = X.length + 1 := by rw [hul]; simp
    refine (trim_n _ _ _ us' w2 hlen (by omega) (Nat.le_refl _) hrow2.cells).mono ?_
    rintro e w' ⟨rfl, rfl⟩
    have hfin := add_fin okX okY hrow2.2 (by omega) hul heq
    have hown := Own.strip' (Nat.le_refl w.heap.size) hrow2 hlen
    rw [hfin, HX.out, HY.out] at hown
    have hbb := hb.trans (hon.below (Nat.le_refl w.heap.size))
    have HF := hide hfin
    clear hfin heq hlen hul
    go_wp2
    go_ret
    exact ⟨_, rfl, by rw [HF.out, HX.out, HY.out]; exact hown, hbb⟩
/-- Sub's answer. -/
def subI (m n : Nat) : Int := if m < n then 6 else 0
theorem cmpI_neg {m n : Nat} : cmpI m n < 0 ↔ m < n := by
  unfold cmpI; split
  · simp [*]
  · split <;> simp <;> omega
theorem sub_fin {X Y us : List Nat} {c : Nat} (ok : OK us) (h : us.length = X.length) (hYX : val Y ≤ val X) (heq : val (seg us 0 X.length) + 1 * val Y = val (seg X 0 X.length) + pw X.length * c) (okX : OK X) :
    strip us = dig (val X - val Y) := by
  have e1 : seg us 0 X.length = us := by have := seg_all us; rw [h] at this; exact this
  rw [e1, seg_all, Nat.one_mul] at heq
  have h1 := val_lt ok
  have h2 := val_lt okX
  rw [h] at h1
  have hc : c = 0 := by
    rcases Nat.eq_zero_or_pos c with hc | hc
    · exact hc
    · have h4 : pw X.length * 1 ≤ pw X.length * c := Nat.mul_le_mul_left _ hc
      omega
  subst hc
  rw [← dig_val ok]
  congr 1
  omega
set_option maxHeartbeats 800000 in
set_option maxRecDepth 20000 in
/-- Sub. -/
theorem sub_any (oa ob : Option Addr) (ca cb : Nat) (xs ys : List Nat) (w : World) (hxl : xs.length ≤ 1000000000000) (hyl : ys.length ≤ 1000000000000) (hxc : xs.length ≤ ca) (hyc : ys.length ≤ cb)
    (okx : OK xs) (oky : OK ys) (hx : Cells w oa xs) (hy : Cells w ob ys) :
    Calls Tryz.prog 66 #[.slice oa xs.length ca, .slice ob ys.length cb] w fun e w' => ∃ v, e = .returned (.tuple #[v, .int .i64 (subI (val xs) (val ys))]) ∧ Own w' w.heap.size v (if val xs < val ys then [] else dig (val xs - val ys)) ∧ Below w.heap.size w w' := by
  have h1 := strip_length_le xs
  have h2 := strip_length_le ys
  by_cases hlt : val xs < val ys
  · have hneg : cmpI (val xs) (val ys) < 0 := cmpI_neg.2 hlt
    have hs : subI (val xs) (val ys) = 6 := by unfold subI; rw [if_pos hlt]
    rw [hs, if_pos hlt]
    go_enter Tryz.func66, Tryz.ntmps66
    go_wp2_with fail
    refine (cmp_any oa ob ca cb xs ys _ (by omega) (by omega) hxc hyc okx oky hx hy).mono ?_
    rintro e w1 ⟨rfl, hb⟩
    go_wp2
    go_ret2
    exact ⟨_, rfl, Own.nil _ _ _, hb⟩
  · have hneg : ¬ cmpI (val xs) (val ys) < 0 := fun h => hlt (cmpI_neg.1 h)
    have hs : subI (val xs) (val ys) = 0 := by unfold subI; rw [if_neg hlt]
    have hlen : (strip ys).length ≤ (strip xs).length := by
      rw [← dig_val okx, ← dig_val oky]; exact dig_length_mono (by omega)
    rw [hs, if_neg hlt]
    go_enter Tryz.func66, Tryz.ntmps66
    go_wp2_with fail
    refine (cmp_any oa ob ca cb xs ys _ (by omega) (by omega) hxc hyc okx oky hx hy).mono ?_
    rintro e w1 ⟨rfl, hb⟩
    go_wp2_with fail
    refine (norm_any oa ca xs w1 (by omega) hxc okx (hx.below hb (Nat.le_refl _))).mono ?_
    rintro e w2 ⟨rfl, hrow, hb2⟩
    go_wp2_with fail
    have hy2 := (hy.below hb (Nat.le_refl _)).below hb2 (Nat.le_refl _)
    have hy1 := (hy.below hb (Nat.le_refl _)).strip
    refine (trim_any ob cb ys _ (by omega) hyc hy2).mono ?_
    rintro e w' ⟨rfl, rfl⟩
    go_wp2_with fail
    refine (takeTimes_any w1.heap.size 0 (strip xs).length (strip xs).length (strip xs) (strip ys) ob cb 1 w2 (by omega) (Nat.le_refl _) hrow (by omega) (by omega) (by omega) hlen (OK_strip oky) hy2.strip (fun hne => hy1.off_new (Nat.le_refl _) hne) (by decide)).mono ?_
    rintro e w3 ⟨c, us', rfl, _, hrow2, hon, hul, _, heq⟩
    go_wp2_with fail
    refine (trim_n _ _ _ us' w3 hul (by omega) (Nat.le_refl _) hrow2.cells).mono ?_
    rintro e w' ⟨rfl, rfl⟩
    have hfin := sub_fin hrow2.2 hul (by rw [val_strip, val_strip]; omega) heq (OK_strip okx)
    rw [val_strip, val_strip] at hfin
    have hown := (Own.strip' (Nat.le_refl w1.heap.size) hrow2 hul).mono hb.size
    rw [hfin] at hown
    have hbb := hb.trans ((hb2.trans (hon.below (Nat.le_refl w1.heap.size))).mono hb.size)
    have HF := hide hfin
    clear hfin heq hul
    go_wp2
    go_ret2
    exact ⟨_, rfl, by rw [HF.out]; exact hown, hbb⟩
theorem mul_fin {X Y P : List Nat} {i n c : Nat} (d : Nat) {P' : List Nat} (okX : OK X) (okY : OK Y) (hi : i < X.length) (hd : X[i]?.getD 0 = d) (hP : P.length = X.length + Y.length) (hP' : P'.length = P.length) (hn : n = X.length + Y.length - i)
    (hv : val P = val (X.take i) * val Y) (hout : ∀ j, j < i ∨ i + n ≤ j → P'[j]?.getD 0 = P[j]?.getD 0) (heq : val (seg P' i n) + pw n * c = val (seg P i n) + d * val Y) : val P' = val (X.take (i + 1)) * val Y := by
  have s1 := seg_split (xs := P) (off := 0) (k := i) (n := P.length) (by omega) (by omega)
  have s2 := seg_split (xs := P') (off := 0) (k := i) (n := P.length) (by omega) (by omega)
  rw [seg_all] at s1
  rw [← hP', seg_all] at s2
  rw [Nat.zero_add] at s1 s2
  have en : P.length - i = n := by omega
  have en' : P'.length - i = n := by omega
  rw [en] at s1
  rw [en'] at s2
  have ec : seg P' 0 i = seg P 0 i := seg_congr hP' (fun j _ h => hout j (.inl (by omega)))
  have key : val P' + pw i * (pw n * c) = val P + pw i * (d * val Y) := by
    have := congrArg (fun z => pw i * z) heq
    simp only [Nat.mul_add] at this
    rw [s1, s2, ec]; omega
  have tk := val_take_succ (xs := X) hi
  rw [hd] at tk
  have e3 : val (X.take (i + 1)) * val Y = val P + pw i * (d * val Y) := by
    rw [tk, Nat.add_mul, hv, Nat.mul_assoc]
  have h1 : val (X.take (i + 1)) < pw (i + 1) := by
    have := val_lt (okX.take (i + 1))
    rw [List.length_take, Nat.min_eq_left (by omega)] at this; exact this
  have h2 := val_lt okY
  have h3 : val (X.take (i + 1)) * val Y < pw i * pw n := by
    rw [← pw_add]
    have h4 : val (X.take (i + 1)) * val Y < pw (i + 1) * pw Y.length := Nat.mul_lt_mul_of_lt_of_le h1 (Nat.le_of_lt h2) (pw_pos _)
    rw [← pw_add] at h4
    exact Nat.lt_of_lt_of_le h4 (pw_mono (by omega))
  have hc : c = 0 := by
    rcases Nat.eq_zero_or_pos c with hc | hc
    · exact hc
    · have h5 : pw i * pw n ≤ pw i * (pw n * c) := by
        rw [← Nat.mul_assoc]; exact Nat.le_mul_of_pos_right _ hc
      omega
  subst hc
  omega
set_option maxHeartbeats 800000 in
set_option maxRecDepth 20000 in
/-- Mul. -/
theorem mul_any (oa ob : Option Addr) (ca cb : Nat) (xs ys : List Nat) (w : World) (hxl : xs.length ≤ 500000000000) (hyl : ys.length ≤ 500000000000) (hxc : xs.length ≤ ca) (hyc : ys.length ≤ cb)
    (okx : OK xs) (oky : OK ys) (hx : Cells w oa xs) (hy : Cells w ob ys) :
    Calls Tryz.prog 67 #[.slice oa xs.length ca, .slice ob ys.length cb] w fun e w' => ∃ v, e = .returned v ∧ Own w' w.heap.size v (dig (val xs * val ys)) ∧ Below w.heap.size w w' := by
  have h1 := strip_length_le xs
  have h2 := strip_length_le ys
  have hx' := hx.strip
  have hy' := hy.strip
  have ex := val_strip xs
  have ey := val_strip ys
  have okX := OK_strip okx
  have okY := OK_strip oky
  generalize val xs = m at *
  generalize val ys = n at *
  have HX := hide ex
  have HY := hide ey
  clear ex ey
  go_enter Tryz.func67, Tryz.ntmps67
  go_wp2_with fail
  refine (trim_any oa ca xs _ (by omega) hxc hx).mono ?_
  rintro e w' ⟨rfl, rfl⟩
  go_wp2_with fail
  refine (trim_any ob cb ys _ (by omega) hyc hy).mono ?_
  rintro e w' ⟨rfl, rfl⟩
  generalize strip xs = X at *
  generalize strip ys = Y at *
  have hmk := mk_run' ((X.length : Int) + (Y.length : Int)) (X.length + Y.length) (by omega) (by omega) w
  have hr0 := Row.new w (List.replicate (X.length + Y.length) 0) (OK.replicate _ (by decide))
  have hb0 : Below w.heap.size w (w.alloc (.cells (cs (List.replicate (X.length + Y.length) 0)) 56)) := (Below.refl _ _).alloc (Nat.le_refl _) _
  go_wp2_with fail
  go_loopw [20] (fun i wr => ∃ (k : Nat) (P : List Nat), k ≤ X.length ∧ i = .int .i64 (k : Int) ∧ Row wr w.heap.size P ∧ Below w.heap.size w wr ∧ P.length = X.length + Y.length ∧ val P = val (X.take k) * val Y) (fun i _ => X.length - (intOf i).toNat)
  case atStart => exact ⟨0, _, Nat.zero_le _, rfl, hr0, hb0, by simp, by rw [val_replicate_zero]; simp [val]⟩
  case round =>
    obtain ⟨k, P, hk, rfl, hr, hb, hPl, hv⟩ := hrel
    have HP := hide hPl
    have HV := hide hv
    clear hPl hv
    by_cases hlt : k < X.length
    · obtain ⟨bx, ox, x, ho, gx, Hx⟩ := (hx'.below hb (Nat.le_refl _)).get hlt
      have hxb : x < 4294967296 := by have := okX.get k; rw [Hx.out] at this; exact this
      subst ho
      go_wp2_with fail
      have hPl := HP.out
      refine (addTimes_any w.heap.size k (X.length + Y.length - k) (X.length + Y.length - k) P Y ob cb x wr (by omega) (Nat.le_refl _) hr (by omega) (by omega) (by omega) (by omega) okY (hy'.below hb (Nat.le_refl _)) (fun hne => hy'.off_new (Nat.le_refl _) hne) hxb).mono ?_
      rintro e w2 ⟨c, P', rfl, hr2, hon, hP', hout, heq⟩
      have hv2 := mul_fin x okX okY hlt Hx.out hPl hP' rfl HV.out hout heq
      have HV2 := hide hv2
      have HP2 : Hid (P'.length = X.length + Y.length) := hP'.trans hPl
      clear hout heq hP' hPl hv2
      go_wp2
      go_roundw
      case rel => exact ⟨k + 1, P', hlt, by go_num, hr2, hb.trans (hon.below (Nat.le_refl _)), HP2.out, HV2.out⟩
      case measure => simp [intOf]; omega
    · obtain rfl : k = X.length := by omega
      go_wp2_with fail
      refine (trim_n _ _ _ P wr HP.out (by omega) (Nat.le_refl _) hr.cells).mono ?_
      rintro e w' ⟨rfl, rfl⟩
      have hfin : strip P = dig (m * n) := by
        rw [← dig_val hr.2, HV.out, List.take_length, HX.out, HY.out]
      have hown := Own.strip' (Nat.le_refl w.heap.size) hr HP.out
      rw [hfin] at hown
      have HF := hide hfin
      clear hfin
      go_wp2
      go_ret
      exact ⟨_, rfl, by rw [HF.out]; exact hown, hb⟩
theorem or_hi (r y : Nat) (hr : r < 4294967296) (hy : y < 4294967296) : bits .or .u64 ((r : Int) * 4294967296) (y : Int) = (r : Int) * 4294967296 + (y : Int) := by
  have h := u64_or_nat (r * 4294967296) y (by omega) (by omega)
  have e : r * 4294967296 ||| y = r * 4294967296 + y := by
    have := Nat.shiftLeft_add_eq_or_of_lt (b := y) (i := 32) (by omega) r
    rw [Nat.shiftLeft_eq] at this
    exact this.symm
  rw [e] at h
  simpa using h
/-- One digit more of a division by a short number, from above. -/
theorem short_step {us ys : List Nat} {j n r g q r' y M : Nat} (hj : j < n) (hn : n ≤ us.length) (hl : ys.length = us.length) (hlow : ∀ i, i < j + 1 → ys[i]?.getD 0 = us[i]?.getD 0) (hy : ys[j]?.getD 0 = y)
    (heq : val (seg us (j + 1) (n - (j + 1))) = val (seg ys (j + 1) (n - (j + 1))) * M + r) (hq : r * 4294967296 + y = q * M + r') (hg : g = q) :
    val (seg us j (n - j)) = val (seg (ys.set j g) j (n - j)) * M + r' := by
  subst hg
  have cut : ∀ zs : List Nat, zs.length = us.length → val (seg zs j (n - j)) = zs[j]?.getD 0 + 4294967296 * val (seg zs (j + 1) (n - (j + 1))) := by
    intro zs hz
    have := seg_split (xs := zs) (off := j) (k := 1) (n := n - j) (by omega) (by omega)
    rw [this, seg_succ (xs := zs) (off := j) (i := 0) (by omega), seg_zero]
    have e : n - j - 1 = n - (j + 1) := by omega
    simp only [pw, e, Nat.add_zero]; omega
  rw [cut us rfl, cut (ys.set j g) (by simpa using hl), getD_set_same (by omega), ← hlow j (by omega), hy, heq]
  have e : seg (ys.set j g) (j + 1) (n - (j + 1)) = seg ys (j + 1) (n - (j + 1)) := seg_congr (by simp) (fun i h1 _ => getD_set_other (by omega))
  rw [e, Nat.add_mul, Nat.mul_assoc, Nat.mul_add]
  omega
set_option maxHeartbeats 800000 in
set_option maxRecDepth 20000 in
/-- takeGroup: the n digits divided by 10^9 in place; the rest. -/
theorem takeGroup_any (b n cap : Nat) (us : List Nat) (w : World) (hn : n ≤ 1099511627776) (_hnc : n ≤ cap) (hrow : Row w b us) (hul : n ≤ us.length) (hus : us.length ≤ 4398046511104) :
    Calls Tryz.prog 97 #[.slice (some ⟨b, 0, none⟩) n cap] w fun e w' =>
      ∃ r us', e = .returned (.int .u64 ((r : Nat) : Int)) ∧ r < 1000000000 ∧ Row w' b us' ∧ Only b w w' ∧ us'.length = us.length ∧ val (seg us 0 n) = val (seg us' 0 n) * 1000000000 + r := by
  go_enter Tryz.func97, Tryz.ntmps97
  go_wp2_with fail
  go_loopw [3, 4] (fun c i wr => ∃ (k r : Nat) (ys : List Nat), k ≤ n ∧ c = .int .u64 (r : Int) ∧ i = .int .i64 ((k : Int) - 1) ∧ r < 1000000000 ∧ Row wr b ys ∧ Only b w wr ∧ ys.length = us.length ∧
      (∀ j, j < k → ys[j]?.getD 0 = us[j]?.getD 0) ∧ val (seg us k (n - k)) = val (seg ys k (n - k)) * 1000000000 + r) (fun _ i _ => (intOf i + 1).toNat)
  case atStart => exact ⟨n, 0, us, Nat.le_refl _, rfl, rfl, by decide, hrow, Only.refl _ _, rfl, fun _ _ => rfl, by simp [seg, val]⟩
  case round =>
    obtain ⟨k, r, ys, hk, rfl, rfl, hrb, hr, ho, hyl, hlow, heq⟩ := hrel
    have Heq := hide heq
    have Hlow := hide hlow
    have Hyl := hide hyl
    clear heq hlow
    by_cases hk0 : 0 < k
    · obtain ⟨j, rfl⟩ : ∃ j, k = j + 1 := ⟨k - 1, by omega⟩
      have gu := hr.cell (i := j) (by omega)
      have gf := hr.free j
      obtain ⟨y, Hy⟩ : ∃ y, Hid (ys[j]?.getD 0 = y) := ⟨_, rfl⟩
      rw [Hy.out] at gu
      have hyb : y < 4294967296 := by have := hr.2.get j; rw [Hy.out] at this; exact this
      have hjn : j < n := by omega
      rw [show ((j + 1 : Nat) : Int) - 1 = (j : Int) from by omega]
      have hor := or_hi r y (by omega) hyb
      have hs := short_step (M := 1000000000) (g := (r * 4294967296 + y) / 1000000000) (q := (r * 4294967296 + y) / 1000000000) (r' := (r * 4294967296 + y) % 1000000000) hjn hul hyl Hlow.out Hy.out Heq.out (by omega) rfl
      have HS := hide hs
      have hnn : 0 ≤ (r : Int) * 4294967296 + (y : Int) := by omega
      have hq : ((r : Int) * 4294967296 + (y : Int)) / 1000000000 = (((r * 4294967296 + y) / 1000000000 : Nat) : Int) := by simp
      have hm : ((r : Int) * 4294967296 + (y : Int)) % 1000000000 = (((r * 4294967296 + y) % 1000000000 : Nat) : Int) := by simp
      have HQ := hide hq
      have HM := hide hm
      clear hs hyl hq hm
      go_wp2_with fail
      rw [HQ.out, HM.out]
      go_roundw
      case rel =>
        exact ⟨j, _, ys.set j ((r * 4294967296 + y) / 1000000000), by omega, rfl, by go_num, by omega, hr.set _ (by omega), ho.setCell _ _, by simpa using Hyl.out,
          fun i hi => by rw [getD_set_other (by omega)]; exact Hlow.out i (by omega), HS.out⟩
      case measure => simp [intOf]
    · obtain rfl : k = 0 := by omega
      go_wp2_with fail
      go_ret
      exact ⟨r, ys, rfl, hrb, hr, ho, Hyl.out, by have := Heq.out; simpa using this⟩
/-- The name of the library's table of the powers of ten, as the row spells it. -/
def p10 : String := Rows.gintKnownRow.named.headD ""
end Go.Proofs.YtlomgfgedkkhkaaGreatDoor
