/- 'GprimeFactors' holds for every input of bulk at most 1048576, whatever the world about it. The walk: YthlhekkcjficdaaGreatVGprimeFactors. -/
import Derived.Test.YthlhekkcjficdaaGreatRows
import Derived.JoinedCond
import Derived.ProofKit
import Derived.OpenShut
import Derived.ShutString
import Derived.Deep.DeepHandedRow
import Derived.Lib.LaidTab
import Derived.Lib.SmallJoins
import Derived.Test.YthlhekkcjficdaaGreatVGprimeFactors
namespace Go.Proofs.YthlhekkcjficdaaGreat.gprimeFactors
open Go.ChangeShapes Go.WideShapes Go.ChangeAt Go.RowKit
open Go.ChangeMaps (open_string shut_string)
set_option linter.unusedVariables false

theorem own : ownKnob Tryz.prog.godebug = none := by kernel_rfl
theorem laidOut : laidOutB Tryz.prog = true := by kernel_rfl
theorem one_le {H : Type} (d : DataW H) : 1 ≤ Rows.uptoBulk d := by
  cases d with
  | lit l => cases l <;> simp [Rows.uptoBulk]
  | nil => simp [Rows.uptoBulk]
  | ptr d => simp [Rows.uptoBulk]
  | slice elems spare => simp [Rows.uptoBulk]
  | agg parts => simp [Rows.uptoBulk]
  | iface t d => simp [Rows.uptoBulk]
  | map entries => simp [Rows.uptoBulk]
  | held h => simp [Rows.uptoBulk]
theorem part_le {H : Type} {d : DataW H} {l : List (DataW H)} (h : d ∈ l) : Rows.uptoBulk d ≤ Rows.uptoBulkAll l := by
  induction l with
  | nil => cases h
  | cons x r ih =>
    simp only [Rows.uptoBulkAll]
    cases List.mem_cons.1 h with
    | inl e => subst e; omega
    | inr e => have := ih e; omega
theorem length_le {H : Type} (l : List (DataW H)) : l.length ≤ Rows.uptoBulkAll l := by
  induction l with
  | nil => simp [Rows.uptoBulkAll]
  | cons x r ih => have := one_le x; simp only [Rows.uptoBulkAll, List.length_cons]; omega
theorem slice_le {H : Type} (elems spare : List (DataW H)) : elems.length + spare.length + 1 ≤ Rows.uptoBulk (.slice elems spare) := by
  have h1 := length_le elems
  have h2 := length_le spare
  simp only [Rows.uptoBulk]
  omega
theorem lits_len {H : Type} (k : IntKind) (zs : List Int) : (lits (H := H) k zs).length = zs.length := by simp [lits]
theorem bound {H : Type} {l : List (DataW H)} (hk : Rows.uptoSmall H l = true) : Rows.uptoBulkAll l ≤ 1048576 := of_decide_eq_true hk
theorem rd_of {W : World} {x : Addr} {len cap : Nat} {zs : List Int} (hl : len ≤ cap) (hz : zs.length = cap) (hcell : ∀ i, i < zs.length → W.cell? (x.add i) = some (.int .u32 (zs.getD i 0))) (hwz : ∀ n ∈ zs, (Lit.int .u32 n).wf = true) :
    Rd W (.slice (some x) len cap) ((zs.take len).map Int.toNat) := by
  have hlen : ((zs.take len).map Int.toNat).length = len := by rw [List.length_map, List.length_take]; omega
  have hnn : ∀ i, i < zs.length → 0 ≤ zs.getD i 0 ∧ zs.getD i 0 < 4294967296 := fun i hi => by
    have hm : zs.getD i 0 ∈ zs := by simp [List.getD, List.getElem?_eq_getElem hi]
    have h := bounds_u32 (hwz _ hm)
    omega
  refine ⟨some x, cap, by rw [hlen], by rw [hlen]; exact hl, ?_, ?_⟩
  · intro d hd
    obtain ⟨z, hz', rfl⟩ := List.mem_map.1 hd
    obtain ⟨i, hi, e⟩ := List.getElem_of_mem (List.mem_of_mem_take hz')
    have := hnn i hi
    have e2 : zs.getD i 0 = z := by simp [List.getD, List.getElem?_eq_getElem hi, e]
    omega
  · by_cases h0 : len = 0
    · subst h0; exact .inl rfl
    · have hsp : x.spot = none := by
        have := hcell 0 (by omega)
        have e : x.add 0 = x := by simp [Addr.add]
        rw [e] at this
        cases hx : x.spot with
        | none => rfl
        | some s =>
          simp only [World.cell?, hx] at this
          split at this <;> simp at this
      obtain ⟨b, off, sp⟩ := x
      simp only at hsp
      subst hsp
      refine .inr ⟨b, off, rfl, fun i hi => ?_⟩
      rw [hlen] at hi
      have := hcell i (by omega)
      rw [Lib.add_plain] at this
      rw [this]
      have h1 := hnn i (by omega)
      have e : ((zs.take len).map Int.toNat)[i]?.getD 0 = (zs.getD i 0).toNat := by
        simp [List.getD, List.getElem?_take_of_lt hi, List.getElem?_eq_getElem (show i < zs.length by omega)]
      rw [e, Int.toNat_of_nonneg h1.1]
theorem zTwo24 : Tryz.prog.cellsOf 24 = 2 := by kernel_rfl
theorem pFour26 : Tryz.prog.cellsOf 26 = 4 := by kernel_rfl
set_option maxHeartbeats 800000 in
set_option maxRecDepth 4000 in
theorem contract (H : Type) (enc : TypeId × Value → H) (W : World) (base : Nat) (args : Array Value) (ds gs : List (DataW H)) (before : List MemPlace)
    (hval0 : ∀ (j : Nat) t v, Tryz.f3.params[j]? = some t → args[j]? = some v → Value.okWide Tryz.prog W .any base t v)
    (hW : DataW.Whole enc Tryz.prog Tryz.f3.params.toList Rows.gprimeFactorsSpec.vars false W args.toList ds gs before) (hk : Rows.uptoSmall H (ds ++ gs) = true) :
    Calls Tryz.prog 3 args W fun e W' => ∃ v, e = .returned v ∧ Rows.gprimeFactorsSpec.post enc Tryz.prog Tryz.f3 false true false false W args v W' := by
  have hval := hval0
  have hW' := hW
  obtain ⟨p, q, hA0, hV, rfl, hfz, hnd⟩ := hW
  have hA : DataW.TrodAll enc Tryz.prog W 0 (fun _ => true) true Tryz.f3.params.toList args.toList ds p := hA0
  rw [Tryz.params3] at hA hval
  obtain ⟨v0, vs0, d0, ds0, p0, q0, hargs, rfl, rfl, h0, r0⟩ := trodAll_cons hA
  obtain ⟨rfl, rfl, rfl⟩ := trodAll_nil r0
  obtain rfl : args = #[v0] := by cases args; simp_all
  obtain ⟨rfl, rfl⟩ := trodVars_none hV
  have hbulk := bound hk
  have k0 := h0
  have lt0 : ∀ x ∈ p0, x.block < W.heap.size := by obtain ⟨m, hm⟩ := k0; exact DataW.trod_lt m _ _ _ hm
  have bk0 : Rows.uptoBulk d0 ≤ 1048576 := Nat.le_trans (part_le (by simp)) hbulk
  obtain ⟨cs0, rfl, sz0⟩ := okWide_struct Tryz.underlying26 (hval 0 26 v0 rfl rfl)
  obtain ⟨c00, c01, c02, c03, rfl⟩ := Go.Joins.array4 (sz0.trans pFour26)
  obtain ⟨fl0, hf0⟩ := h0
  obtain ⟨y00, y01, m0, hx0, _, t00, t01⟩ := Go.ChangeShapes.trod_struct2 Tryz.underlying26 hf0
  simp only [Prod.mk.injEq] at hx0
  obtain ⟨hx0, _⟩ := hx0
  simp only [Value.cells, zTwo24, List.drop, List.take] at t00 t01
  obtain ⟨y00b, y00s, m00, hx00, _, tb00, ts00⟩ := Go.ChangeShapes.trod_struct2 Tryz.underlying24 t00
  replace hx00 := congrArg Prod.fst hx00
  dsimp only at hx00
  simp only [show Tryz.prog.cellsOf 4 = 1 by kernel_rfl, List.drop, List.take] at tb00
  simp only [show Tryz.prog.cellsOf 22 = 1 by kernel_rfl, List.drop, List.take] at ts00
  obtain ⟨b00, hb00, _⟩ := DataW.trod_bool Tryz.underlying4 tb00
  obtain rfl : c00 = .bool b00 := by simpa using hb00
  obtain ⟨y01b, y01s, m01, hx01, _, tb01, ts01⟩ := Go.ChangeShapes.trod_struct2 Tryz.underlying24 t01
  replace hx01 := congrArg Prod.fst hx01
  dsimp only at hx01
  simp only [show Tryz.prog.cellsOf 4 = 1 by kernel_rfl, List.drop, List.take] at tb01
  simp only [show Tryz.prog.cellsOf 22 = 1 by kernel_rfl, List.drop, List.take] at ts01
  obtain ⟨b01, hb01, _⟩ := DataW.trod_bool Tryz.underlying4 tb01
  obtain rfl : c02 = .bool b01 := by simpa using hb01
  have bs0 : Rows.uptoBulk y00s.1 ≤ 1048576 ∧ Rows.uptoBulk y01s.1 ≤ 1048576 := by
    rw [hx0, hx00, hx01] at bk0
    simp only [Rows.uptoBulk, Rows.uptoBulkAll] at bk0
    omega
  have bs00 := bs0.1
  obtain ⟨z00, w00, lz00⟩ : ∃ xs, Rd W c01 xs ∧ xs.length ≤ 1048576 := by
    rcases open_ints Tryz.underlying22 Tryz.underlying82 (by kernel_rfl) ts00 with ⟨hcs, _⟩ | ⟨x, l, c, zs, hcs, _, hl, hm, hz, hx, hcell, hwz⟩
    · obtain rfl : c01 = .slice none 0 0 := by simpa using hcs
      exact ⟨[], ⟨none, 0, rfl, Nat.le_refl _, Dig.OK.nil, .inl rfl⟩, by simp⟩
    · obtain rfl : c01 = .slice (some x) l c := by simpa using hcs
      have hz' : zs.length = c := by simpa using hz
      refine ⟨_, rd_of hl hz' hcell hwz, ?_⟩
      have hd : y00s.1 = .slice (lits .u32 (zs.take l)) (lits .u32 (zs.drop l)) := congrArg Prod.fst hx
      rw [hd] at bs00
      have h1 := slice_le (lits (H := H) .u32 (zs.take l)) (lits .u32 (zs.drop l))
      simp only [lits_len] at h1
      simp only [List.length_map]
      omega
  have bs01 := bs0.2
  obtain ⟨z01, w01, lz01⟩ : ∃ xs, Rd W c03 xs ∧ xs.length ≤ 1048576 := by
    rcases open_ints Tryz.underlying22 Tryz.underlying82 (by kernel_rfl) ts01 with ⟨hcs, _⟩ | ⟨x, l, c, zs, hcs, _, hl, hm, hz, hx, hcell, hwz⟩
    · obtain rfl : c03 = .slice none 0 0 := by simpa using hcs
      exact ⟨[], ⟨none, 0, rfl, Nat.le_refl _, Dig.OK.nil, .inl rfl⟩, by simp⟩
    · obtain rfl : c03 = .slice (some x) l c := by simpa using hcs
      have hz' : zs.length = c := by simpa using hz
      refine ⟨_, rd_of hl hz' hcell hwz, ?_⟩
      have hd : y01s.1 = .slice (lits .u32 (zs.take l)) (lits .u32 (zs.drop l)) := congrArg Prod.fst hx
      rw [hd] at bs01
      have h1 := slice_le (lits (H := H) .u32 (zs.take l)) (lits .u32 (zs.drop l))
      simp only [lits_len] at h1
      simp only [List.length_map]
      omega
  clear hA0 hval0
  refine (walk_GprimeFactors W b00 c01 z00 w00 lz00 b01 c03 z01 w01 lz01).mono fun e W' ⟨he, bel⟩ => ?_
  subst he
  exact ⟨_, rfl, _, _, _, [], _, [], hW', trodAll_mk1 (shut_bool Tryz.underlying4 _), (trodAll_cons_mk (Below.trod laidOut (by kernel_rfl) (of_decide_eq_true (by kernel_rfl)) k0 bel lt0) trodAll_mk0), rfl, bel.frame _, fun h => by cases h⟩
set_option maxRecDepth 100000 in
theorem liftedUpto (os : Os) (started : os.Started) (H : Type) (enc : TypeId × Value → H) (F : Stop.Interp) :
    ReturnsInHanded {} Tryz.checked os 3 .any ((Rows.OpenSpec.upto Rows.gprimeFactorsSpec).pre6 enc Tryz.prog Tryz.f3 Rows.gprimeFactorsUptoRow.domain false) (((Rows.OpenSpec.upto Rows.gprimeFactorsSpec).at F).post enc Tryz.prog Tryz.f3 false true false false) := by
  refine returnsInHanded_of_cond (C := Tryz.checked) (s := Rows.OpenSpec.upto Rows.gprimeFactorsSpec) (k := Rows.uptoSmall) rfl own started (by kernel_rfl) Tryz.func3
    (OpenSpec.witness (enc := enc) (C := Tryz.checked) (s := Rows.OpenSpec.upto Rows.gprimeFactorsSpec) (k := Rows.uptoSmall) rfl false ⟨#[], #[.agg #[.bool false, .slice none 0 0, .bool false, .slice none 0 0]], []⟩ 8 (by kernel_rfl) (by kernel_rfl) (by kernel_rfl)
      (x := ([.agg [.agg [.lit (.bool false), .nil], .agg [.lit (.bool false), .nil]]], [], [])) (by kernel_rfl) rfl (by kernel_rfl)) ?_
  intro W base args ds gs before hval hW _ hk _
  exact contract H enc W base args ds gs before hval hW hk
theorem saidUpto : Rows.GprimeFactorsUptoSaid :=
  OpenClaim.holds_of_cond 3 Tryz.f3 rfl rfl rfl rfl rfl rfl rfl ⟨rfl, rfl, rfl, rfl, rfl⟩ rfl rfl rfl rfl rfl (by kernel_rfl) Tryz.func3 (by kernel_rfl)
    (of_decide_eq_true (by kernel_rfl)) (by unfold Func.isWrapper; first | (rw [if_pos (by decide +kernel)]; kernel_rfl) | (rw [if_neg (by decide +kernel)]; exact ⟨rfl, rfl⟩))
    (fun os started H enc _ F => liftedUpto os started H enc F)
end Go.Proofs.YthlhekkcjficdaaGreat.gprimeFactors

