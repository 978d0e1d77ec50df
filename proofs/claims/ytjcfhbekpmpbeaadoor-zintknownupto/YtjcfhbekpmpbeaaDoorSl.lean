/- What a world says of slices of digits: read ones (Rd), rows of the call's own (Row, Own), and what of the world may have turned (Only). -/
import Derived.Test.YtjcfhbekpmpbeaaDoorRows
import Derived.WalkKit
import Derived.WalkSpells
import Derived.WalkLawsBesides
import Derived.Test.YtjcfhbekpmpbeaaDoorDig
namespace Go.Proofs.YtjcfhbekpmpbeaaDoor
open Go.RowKit Dig

theorem hide {p : Prop} (h : p) : Hid p := h

/-- The digit as a cell. -/
def dv (d : Nat) : Value := .int .u32 (d : Int)
def cs (xs : List Nat) : Array Value := (xs.map dv).toArray

def Cells (w : World) (oa : Option Addr) (ds : List Nat) : Prop :=
  ds = [] ∨ ∃ b off, oa = some ⟨b, off, none⟩ ∧ ∀ i, i < ds.length → w.cell? ⟨b, off + i, none⟩ = some (.int .u32 (ds[i]?.getD 0 : Nat))

/-- v is a slice whose digits, as w reads them, are ds. -/
def Rd (w : World) (v : Value) (ds : List Nat) : Prop :=
  ∃ oa cap, v = .slice oa ds.length cap ∧ ds.length ≤ cap ∧ OK ds ∧ Cells w oa ds

/-- Block b is a row of digits xs, not frozen. -/
def Row (w : World) (b : Nat) (xs : List Nat) : Prop := w.heap[b]? = some (.cells (cs xs) 24 (0, 0)) ∧ OK xs

/-- v is a slice of digits ds in a block from B on, which bears nothing else than digits. -/
def Own (w : World) (B : Nat) (v : Value) (ds : List Nat) : Prop :=
  ∃ oa cap, v = .slice oa ds.length cap ∧ ds.length ≤ cap ∧
    ((cap = 0) ∨ ∃ b off xs, oa = some ⟨b, off, none⟩ ∧ B ≤ b ∧ Row w b xs ∧ off + cap ≤ xs.length ∧ ds = (xs.drop off).take ds.length)

/-- Nothing but block b may have turned. -/
structure Only (b : Nat) (w w' : World) : Prop where
  os : w'.os = w.os
  tape : w'.tape = w.tape
  output : w'.output = w.output
  size : w'.heap.size = w.heap.size
  block : ∀ k, k ≠ b → w'.heap[k]? = w.heap[k]?

theorem Only.refl (b : Nat) (w : World) : Only b w w := ⟨rfl, rfl, rfl, rfl, fun _ _ => rfl⟩
theorem Only.trans {b : Nat} {u v w : World} (h : Only b u v) (k : Only b v w) : Only b u w :=
  ⟨k.os.trans h.os, k.tape.trans h.tape, k.output.trans h.output, k.size.trans h.size, fun i hi => (k.block i hi).trans (h.block i hi)⟩
theorem Only.drew {b : Nat} {u w : World} (h : Only b u w) : Only b u w.drew := ⟨h.os, h.tape, h.output, h.size, h.block⟩
theorem Only.setCell {b : Nat} {u w : World} (h : Only b u w) (o : Nat) (v : Value) : Only b u (w.setCell ⟨b, o, none⟩ v) :=
  h.trans ⟨rfl, rfl, rfl, by simp [World.setCell], fun k hk => Below.heap_setCell _ _ _ _ hk⟩
theorem Only.below {b B : Nat} {u w : World} (h : Only b u w) (hb : B ≤ b) : Below B u w :=
  ⟨h.os, h.tape, h.output, by rw [h.size]; exact Nat.le_refl _, fun k hk => h.block k (by omega)⟩
theorem Only.row {b c : Nat} {u w : World} (h : Only b u w) {xs : List Nat} (hr : Row u c xs) (hc : c ≠ b) : Row w c xs := ⟨by rw [h.block c hc]; exact hr.1, hr.2⟩

theorem cs_size (xs : List Nat) : (cs xs).size = xs.length := by simp [cs]
theorem cs_get {xs : List Nat} {i : Nat} (h : i < xs.length) : (cs xs)[i]? = some (.int .u32 (xs[i]?.getD 0 : Nat)) := by
  simp [cs, dv, h]
theorem cs_set (xs : List Nat) (i d : Nat) : (cs xs).setIfInBounds i (.int .u32 (d : Int)) = cs (xs.set i d) := by
  have : (xs.map dv).set i (.int .u32 (d : Int)) = (xs.set i d).map dv := by rw [List.map_set]; rfl
  simp [cs, this]

theorem Row.lt {w : World} {b : Nat} {xs : List Nat} (h : Row w b xs) : b < w.heap.size := by
  have := h.1
  rcases Nat.lt_or_ge b w.heap.size with hb | hb
  · exact hb
  · rw [Array.getElem?_eq_none hb] at this; cases this
theorem Row.cell {w : World} {b : Nat} {xs : List Nat} (h : Row w b xs) {i : Nat} (hi : i < xs.length) : w.cell? ⟨b, i, none⟩ = some (.int .u32 (xs[i]?.getD 0 : Nat)) := by
  simp [World.cell?, h.1, cs_get hi]
theorem Row.free {w : World} {b : Nat} {xs : List Nat} (h : Row w b xs) (i : Nat) : w.frozen? ⟨b, i, none⟩ = false := by
  simp [World.frozen?, h.1]
theorem Row.set {w : World} {b : Nat} {xs : List Nat} (h : Row w b xs) (i : Nat) {d : Nat} (hd : d < 4294967296) : Row (w.setCell ⟨b, i, none⟩ (.int .u32 (d : Int))) b (xs.set i d) := by
  refine ⟨?_, h.2.set i hd⟩
  simp only [World.setCell, Array.getElem?_modify, h.1]
  simp [cs_set]
theorem Row.below {w w' : World} {b B : Nat} {xs : List Nat} (h : Row w b xs) (hb : Below B w w') (hB : b < B) : Row w' b xs := ⟨by rw [hb.block b hB]; exact h.1, h.2⟩
theorem Row.drew {w : World} {b : Nat} {xs : List Nat} (h : Row w b xs) : Row w.drew b xs := ⟨h.1, h.2⟩
theorem Row.inj {w : World} {b : Nat} {xs ys : List Nat} (h : Row w b xs) (k : Row w b ys) : xs = ys := by
  have e := h.1.symm.trans k.1
  simp only [Option.some.injEq, Obj.cells.injEq, and_true] at e
  have : xs.map dv = ys.map dv := by simpa [cs] using e
  exact (List.map_inj_right (fun a b hab => by simp only [dv, Value.int.injEq, true_and] at hab; omega)).1 this

theorem Cells.lt {w : World} {b off : Nat} {ds : List Nat} (hcell : ∀ i, i < ds.length → w.cell? ⟨b, off + i, none⟩ = some (.int .u32 (ds[i]?.getD 0 : Nat))) (hne : ds ≠ []) : b < w.heap.size := by
  have h := hcell 0 (List.length_pos_iff.2 hne)
  rcases Nat.lt_or_ge b w.heap.size with hb | hb
  · exact hb
  · simp [World.cell?, Array.getElem?_eq_none hb] at h

theorem Cells.below {w w' : World} {oa : Option Addr} {ds : List Nat} (h : Cells w oa ds) {B : Nat} (hb : Below B w w') (hB : w.heap.size ≤ B) : Cells w' oa ds := by
  by_cases hne : ds = []
  · exact .inl hne
  · obtain ⟨b, off, ho, hc⟩ := h.resolve_left hne
    have hlt := Cells.lt hc hne
    exact .inr ⟨b, off, ho, fun i hi => by rw [hb.cell (p := ⟨b, off + i, none⟩) (by show b < B; omega)]; exact hc i hi⟩

/-- A digit that is read: its place, and its value by a name of its own. -/
theorem Cells.get {w : World} {oa : Option Addr} {ds : List Nat} (h : Cells w oa ds) {i : Nat} (hi : i < ds.length) :
    ∃ b off x, oa = some ⟨b, off, none⟩ ∧ w.cell? ⟨b, off + i, none⟩ = some (.int .u32 ((x : Nat) : Int)) ∧ Hid (ds[i]?.getD 0 = x) := by
  have hne : ds ≠ [] := fun e => by rw [e] at hi; simp at hi
  obtain ⟨b, off, ho, hc⟩ := h.resolve_left hne
  exact ⟨b, off, _, ho, hc i hi, rfl⟩

/-- The slice does not lie in block b. -/
def Off (b : Nat) (oa : Option Addr) : Prop := ∀ a, oa = some a → a.block ≠ b
theorem Cells.only {w w' : World} {b : Nat} {oa : Option Addr} {ds : List Nat} (h : Cells w oa ds) (ho : Only b w w') (hoff : Off b oa) : Cells w' oa ds := by
  by_cases hne : ds = []
  · exact .inl hne
  · obtain ⟨c, off, e, hc⟩ := h.resolve_left hne
    refine .inr ⟨c, off, e, fun i hi => ?_⟩
    rw [← hc i hi]
    exact World.cell?_of_block (w := w) (ho.block c (hoff _ e))

theorem Cells.take {w : World} {oa : Option Addr} {ds : List Nat} (h : Cells w oa ds) (n : Nat) : Cells w oa (ds.take n) := by
  by_cases hne : ds.take n = []
  · exact .inl hne
  · have hne' : ds ≠ [] := fun e => hne (by simp [e])
    obtain ⟨b, off, ho, hc⟩ := h.resolve_left hne'
    refine .inr ⟨b, off, ho, fun i hi => ?_⟩
    rw [List.length_take] at hi
    rw [hc i (by omega), List.getElem?_take_of_lt (by omega)]

theorem Rd.mk {w : World} {oa : Option Addr} {cap : Nat} {ds : List Nat} (h : ds.length ≤ cap) (ok : OK ds) (hc : Cells w oa ds) : Rd w (.slice oa ds.length cap) ds := ⟨oa, cap, rfl, h, ok, hc⟩
theorem Rd.ok {w : World} {v : Value} {ds : List Nat} (h : Rd w v ds) : OK ds := by obtain ⟨_, _, _, _, h, _⟩ := h; exact h
theorem Rd.below {w w' : World} {v : Value} {ds : List Nat} (h : Rd w v ds) {B : Nat} (hb : Below B w w') (hB : w.heap.size ≤ B) : Rd w' v ds := by
  obtain ⟨oa, cap, hv, hc, ok, hcell⟩ := h
  exact ⟨oa, cap, hv, hc, ok, hcell.below hb hB⟩
theorem Rd.drew {w : World} {v : Value} {ds : List Nat} (h : Rd w v ds) : Rd w.drew v ds := h.below ((Below.refl _ _).drew) (Nat.le_refl _)
theorem Rd.alloc {w : World} {v : Value} {ds : List Nat} (h : Rd w v ds) (o : Obj) : Rd (w.alloc o) v ds := h.below ((Below.refl w.heap.size _).alloc (Nat.le_refl _) o) (Nat.le_refl _)

theorem Cells.of_row {w : World} {b off n : Nat} {xs : List Nat} (h : Row w b xs) (hn : off + n ≤ xs.length) : Cells w (some ⟨b, off, none⟩) ((xs.drop off).take n) := by
  refine .inr ⟨b, off, rfl, fun i hi => ?_⟩
  simp at hi
  rw [h.cell (by omega), List.getElem?_take_of_lt (by omega), List.getElem?_drop]

theorem Own.ok {w : World} {B : Nat} {v : Value} {ds : List Nat} (h : Own w B v ds) : OK ds := by
  obtain ⟨oa, cap, hv, hc, h0 | ⟨b, off, xs, ho, hB, hr, hx, hd⟩⟩ := h
  · have : ds = [] := List.length_eq_zero_iff.1 (by omega)
    rw [this]; exact OK.nil
  · rw [hd]; exact (hr.2.drop off).take _

/-- What is owned can be read. -/
theorem Own.rd {w : World} {B : Nat} {v : Value} {ds : List Nat} (h : Own w B v ds) : Rd w v ds := by
  have ok := h.ok
  obtain ⟨oa, cap, hv, hc, h0 | ⟨b, off, xs, ho, hB, hr, hx, hd⟩⟩ := h
  · exact ⟨oa, cap, hv, hc, ok, .inl (List.length_eq_zero_iff.1 (by omega))⟩
  · refine ⟨oa, cap, hv, hc, ok, ?_⟩
    have := Cells.of_row (n := ds.length) hr (show off + ds.length ≤ xs.length by omega)
    rw [← hd] at this
    rw [ho]; exact this

theorem Own.below {w w' : World} {C : Nat} {v : Value} {ds : List Nat} (h : Own w C v ds) {B : Nat} (hb : Below B w w') (hB : w.heap.size ≤ B) : Own w' C v ds := by
  obtain ⟨oa, cap, hv, hc, h0 | ⟨b, off, xs, ho, hB', hr, hx, hd⟩⟩ := h
  · exact ⟨oa, cap, hv, hc, .inl h0⟩
  · exact ⟨oa, cap, hv, hc, .inr ⟨b, off, xs, ho, hB', hr.below hb (by have := hr.lt; omega), hx, hd⟩⟩
theorem Own.mono {w : World} {B C : Nat} {v : Value} {ds : List Nat} (h : Own w B v ds) (hC : C ≤ B) : Own w C v ds := by
  obtain ⟨oa, cap, hv, hc, h0 | ⟨b, off, xs, ho, hB', hr, hx, hd⟩⟩ := h
  · exact ⟨oa, cap, hv, hc, .inl h0⟩
  · exact ⟨oa, cap, hv, hc, .inr ⟨b, off, xs, ho, by omega, hr, hx, hd⟩⟩
theorem Own.nil (w : World) (B : Nat) (oa : Option Addr) : Own w B (.slice oa 0 0) [] := ⟨oa, 0, rfl, Nat.le_refl _, .inl rfl⟩
theorem Own.row {w : World} {B b off n cap : Nat} {xs : List Nat} (hB : B ≤ b) (hr : Row w b xs) (hn : n ≤ cap) (hc : off + cap ≤ xs.length) : Own w B (.slice (some ⟨b, off, none⟩) n cap) ((xs.drop off).take n) := by
  have hl : ((xs.drop off).take n).length = n := by simp; omega
  exact ⟨_, cap, by rw [hl], by omega, .inr ⟨b, off, xs, rfl, hB, hr, hc, by rw [hl]⟩⟩

/-- A segment of a row. -/
def seg (xs : List Nat) (off n : Nat) : List Nat := (xs.drop off).take n
theorem seg_length {xs : List Nat} {off n : Nat} (h : off + n ≤ xs.length) : (seg xs off n).length = n := by simp [seg]; omega
theorem seg_get {xs : List Nat} {off n i : Nat} (hi : i < n) : (seg xs off n)[i]?.getD 0 = xs[off + i]?.getD 0 := by
  simp only [seg]; rw [List.getElem?_take_of_lt hi, List.getElem?_drop]
theorem seg_ok {xs : List Nat} (h : OK xs) (off n : Nat) : OK (seg xs off n) := (h.drop off).take n
theorem seg_succ {xs : List Nat} {off i : Nat} (h : off + i < xs.length) : val (seg xs off (i + 1)) = val (seg xs off i) + pw i * xs[off + i]?.getD 0 := by
  have := val_take_succ (xs := xs.drop off) (k := i) (by simp; omega)
  simpa [seg] using this
theorem seg_zero (xs : List Nat) (off : Nat) : val (seg xs off 0) = 0 := by simp [seg, val]
theorem seg_congr {xs ys : List Nat} {off n : Nat} (hl : xs.length = ys.length) (h : ∀ j, off ≤ j → j < off + n → xs[j]?.getD 0 = ys[j]?.getD 0) : seg xs off n = seg ys off n := by
  apply List.ext_getElem?
  intro i
  simp only [seg]
  by_cases hi : i < n
  · rw [List.getElem?_take_of_lt hi, List.getElem?_take_of_lt hi, List.getElem?_drop, List.getElem?_drop]
    by_cases hx : off + i < xs.length
    · have := h (off + i) (by omega) (by omega)
      rw [List.getElem?_eq_getElem hx, List.getElem?_eq_getElem (by omega : off + i < ys.length)] at this ⊢
      simpa using this
    · rw [List.getElem?_eq_none (by omega), List.getElem?_eq_none (by omega)]
  · rw [List.getElem?_eq_none (by simp; omega), List.getElem?_eq_none (by simp; omega)]
theorem seg_set {xs : List Nat} {off i d : Nat} : seg (xs.set (off + i) d) off i = seg xs off i :=
  seg_congr (by simp) (fun j h1 h2 => getD_set_other (by omega))
theorem seg_all (xs : List Nat) : seg xs 0 xs.length = xs := by simp [seg]

/-- The element type's row of the table. -/
theorem info32 : (Tryd.prog.info? 24).map (fun i => (i.zero, i.size, i.bytes)) = some (some (.int .u32 0), 1, 4) := by kernel_rfl

theorem cs_replicate (n : Nat) : madeCells #[.int .u32 0] n = cs (List.replicate n 0) := by
  apply Array.ext'
  rw [toList_madeCells_one]
  simp [cs, dv]

theorem mk_run (n : Nat) (h : n ≤ 35184372088832) (w : World) : (Instr.makeSlice 22 (.int .i64 (n : Int)) (.int .i64 (n : Int))).run Tryd.prog w =
    .ok (.slice (some ⟨w.heap.size, 0, none⟩) n n) (w.alloc (.cells (cs (List.replicate n 0)) 24)) := by
  obtain ⟨i0, hi, hz0, hz1, hz2⟩ := info_parts info32
  have := run_make (P := Tryd.prog) w 22 24 i0 (.int .u32 0) Tryd.underlying22 hi hz0 .i64 .i64 n n (by omega) (Int.le_refl _) (by rw [hz2]; omega) (by omega)
  rw [this, hz1]
  simp only [Int.toNat_natCast, Nat.mul_one, Value.cells, cs_replicate]

/-- 'make' at a length that the walk has written otherwise. -/
theorem mk_run' (L : Int) (n : Nat) (e : L = (n : Int)) (h : n ≤ 35184372088832) (w : World) : (Instr.makeSlice 22 (.int .i64 L) (.int .i64 L)).run Tryd.prog w =
    .ok (.slice (some ⟨w.heap.size, 0, none⟩) n n) (w.alloc (.cells (cs (List.replicate n 0)) 24)) := by
  subst e; exact mk_run n h w

theorem Row.new (w : World) (xs : List Nat) (ok : OK xs) : Row (w.alloc (.cells (cs xs) 24)) w.heap.size xs := by
  refine ⟨?_, ok⟩
  show (w.heap.push _)[w.heap.size]? = _
  simp
theorem Row.alloc {w : World} {b : Nat} {xs : List Nat} (h : Row w b xs) (o : Obj) : Row (w.alloc o) b xs :=
  h.below ((Below.refl w.heap.size w).alloc (Nat.le_refl _) o) h.lt

theorem setRow_row {w : World} {b : Nat} {xs ys : List Nat} (h : Row w b xs) (ok : OK ys) : Row (w.setRow b (cs ys)) b ys := by
  refine ⟨?_, ok⟩
  simp only [World.setRow, Array.getElem?_modify, h.1]
  simp
theorem setRow_only (w : World) (b : Nat) (c : Array Value) : Only b w (w.setRow b c) :=
  ⟨rfl, rfl, rfl, by simp [World.setRow], fun k hk => by simp only [World.setRow, Array.getElem?_modify]; rw [if_neg (Ne.symm hk)]⟩

theorem size32 : (Tryd.prog.info? 24).map (·.size) = some 1 := by kernel_rfl

/-- The built-in copy into a row of digits, of digits that are no more than the place for them. -/
theorem cp_run {w : World} {b off dLen dCap sCap ty : Nat} {xs ds : List Nat} {oa : Option Addr} (hr : Row w b xs) (ok : OK ds) (hc : Cells w oa ds) (hl : ds.length ≤ dLen) (hx : off + dLen ≤ xs.length) :
    ∃ w', (Builtin.copy_ #[22, 22] ty #[.slice (some ⟨b, off, none⟩) dLen dCap, .slice oa ds.length sCap]).run Tryd.prog w = .ok (.int .i64 (ds.length : Int)) w' ∧
      Row w' b (xs.take off ++ ds ++ xs.drop (off + ds.length)) ∧ Only b w w' := by
  have okn : OK (xs.take off ++ ds ++ xs.drop (off + ds.length)) := ((hr.2.take _).append ok).append (hr.2.drop _)
  by_cases hne : ds = []
  · subst hne
    have := run_copy_none (P := Tryd.prog) w 22 22 ty 24 (some ⟨b, off, none⟩) oa dLen dCap 0 sCap Tryd.underlying22 size32 (by simp)
    exact ⟨w, this, by simpa using hr, Only.refl _ _⟩
  · obtain ⟨b', off', ho, hcell⟩ := hc.resolve_left hne
    have hmin : Nat.min ds.length dLen = ds.length := Nat.min_eq_left hl
    have := run_copy_row (P := Tryd.prog) w 22 22 ty 24 b off dLen dCap ⟨b', off', none⟩ ds.length sCap (cs xs) 24 (ds.map dv) Tryd.underlying22 size32 hr.1 (by simp [hmin])
      (fun j v hj => by
        simp only [List.getElem?_map, Option.map_eq_some_iff] at hj
        obtain ⟨d, hd, rfl⟩ := hj
        have hjl : j < ds.length := by
          rcases Nat.lt_or_ge j ds.length with h | h
          · exact h
          · rw [List.getElem?_eq_none h] at hd; cases hd
        have e : (⟨b', off', none⟩ : Addr).add j = ⟨b', off' + j, none⟩ := by
          unfold Addr.add; split
          · rename_i h; subst h; rfl
          · rfl
        rw [e, hcell j hjl, hd]; rfl)
      (by simp [cs_size]; omega) (fun v hv => by simp only [List.mem_map] at hv; obtain ⟨d, _, rfl⟩ := hv; rfl)
    have e : (cs xs).toList.take off ++ ds.map dv ++ (cs xs).toList.drop (off + (ds.map dv).length) = (xs.take off ++ ds ++ xs.drop (off + ds.length)).map dv := by
      simp [cs, List.map_take, List.map_drop]
    rw [e] at this
    refine ⟨w.setRow b (cs (xs.take off ++ ds ++ xs.drop (off + ds.length))), ?_, setRow_row hr okn, setRow_only _ _ _⟩
    rw [ho, this, List.length_map]; rfl

#print axioms Own.rd
#print axioms cp_run
end Go.Proofs.YtjcfhbekpmpbeaaDoor
