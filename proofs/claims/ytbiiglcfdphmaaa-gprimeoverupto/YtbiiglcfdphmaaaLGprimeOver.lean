/- 'GprimeOver' holds for every input of bulk at most 1048576, whatever the world about it. The walk: YtbiiglcfdphmaaaVGprimeOver. -/
import Derived.Test.YtbiiglcfdphmaaaRows
import Derived.JoinedCond
import Derived.ProofKit
import Derived.OpenShut
import Derived.ShutString
import Derived.Deep.DeepHandedRow
import Derived.Lib.LaidTab
import Derived.Lib.SmallJoins
import Derived.Test.YtbiiglcfdphmaaaVGprimeOver
namespace Go.Proofs.Ytbiiglcfdphmaaa.gprimeOver
open Go.ChangeShapes Go.WideShapes Go.ChangeAt Go.RowKit
open Go.ChangeMaps (open_string shut_string)
set_option linter.unusedVariables false

theorem own : ownKnob Try.prog.godebug = none := by kernel_rfl
theorem laidOut : laidOutB Try.prog = true := by kernel_rfl
theorem one_le {H : Type} (d : DataW H) : 1 ≤ Rows.uptoBulk d := by
  cases d with
  | lit l => cases l <;> simp [Rows.uptoBulk]
  | nil => simp [Rows.uptoBulk]
  | ptr d => simp [Rows.uptoBulk]
  | slice elems spare => simp [Rows.uptoBulk]
  | agg parts => simp [Rows.uptoBulk]
  | iface t d => simp [Rows.uptoBulk]
  | map entries => simp [Rows.uptoBulk]
  | held h => simp [Rows.uptoBulk]
theorem part_le {H : Type} {d : DataW H} {l : List (DataW H)} (h : d ∈ l) : Rows.uptoBulk d ≤ Rows.uptoBulkAll l := by
  induction l with
  | nil => cases h
  | cons x r ih =>
    simp only [Rows.uptoBulkAll]
    cases List.mem_cons.1 h with
    | inl e => subst e; omega
    | inr e => have := ih e; omega
theorem length_le {H : Type} (l : List (DataW H)) : l.length ≤ Rows.uptoBulkAll l := by
  induction l with
  | nil => simp [Rows.uptoBulkAll]
  | cons x r ih => have := one_le x; simp only [Rows.uptoBulkAll, List.length_cons]; omega
theorem slice_le {H : Type} (elems spare : List (DataW H)) : elems.length + spare.length + 1 ≤ Rows.uptoBulk (.slice elems spare) := by
  have h1 := length_le elems
  have h2 := length_le spare
  simp only [Rows.uptoBulk]
  omega
theorem lits_len {H : Type} (k : IntKind) (zs : List Int) : (lits (H := H) k zs).length = zs.length := by simp [lits]
theorem bound {H : Type} {l : List (DataW H)} (hk : Rows.uptoSmall H l = true) : Rows.uptoBulkAll l ≤ 1048576 := of_decide_eq_true hk
theorem rd_of {W : World} {x : Addr} {len cap : Nat} {zs : List Int} (hl : len ≤ cap) (hz : zs.length = cap) (hcell : ∀ i, i < zs.length → W.cell? (x.add i) = some (.int .u32 (zs.getD i 0))) (hwz : ∀ n ∈ zs, (Lit.int .u32 n).wf = true) :
    Rd W (.slice (some x) len cap) ((zs.take len).map Int.toNat) := by
  have hlen : ((zs.take len).map Int.toNat).length = len := by rw [List.length_map, List.length_take]; omega
  have hnn : ∀ i, i < zs.length → 0 ≤ zs.getD i 0 ∧ zs.getD i 0 < 4294967296 := fun i hi => by
    have hm : zs.getD i 0 ∈ zs := by simp [List.getD, List.getElem?_eq_getElem hi]
    have h := bounds_u32 (hwz _ hm)
    omega
  refine ⟨some x, cap, by rw [hlen], by rw [hlen]; exact hl, ?_, ?_⟩
  · intro d hd
    obtain ⟨z, hz', rfl⟩ := List.mem_map.1 hd
    obtain ⟨i, hi, e⟩ := List.getElem_of_mem (List.mem_of_mem_take hz')
    have := hnn i hi
    have e2 : zs.getD i 0 = z := by simp [List.getD, List.getElem?_eq_getElem hi, e]
    omega
  · by_cases h0 : len = 0
    · subst h0; exact .inl rfl
    · have hsp : x.spot = none := by
        have := hcell 0 (by omega)
        have e : x.add 0 = x := by simp [Addr.add]
        rw [e] at this
        cases hx : x.spot with
        | none => rfl
        | some s =>
          simp only [World.cell?, hx] at this
          split at this <;> simp at this
      obtain ⟨b, off, sp⟩ := x
      simp only at hsp
      subst hsp
      refine .inr ⟨b, off, rfl, fun i hi => ?_⟩
      rw [hlen] at hi
      have := hcell i (by omega)
      rw [Lib.add_plain] at this
      rw [this]
      have h1 := hnn i (by omega)
      have e : ((zs.take len).map Int.toNat)[i]?.getD 0 = (zs.getD i 0).toNat := by
        simp [List.getD, List.getElem?_take_of_lt hi, List.getElem?_eq_getElem (show i < zs.length by omega)]
      rw [e, Int.toNat_of_nonneg h1.1]
theorem zTwo27 : Try.prog.cellsOf 27 = 2 := by kernel_rfl
theorem zOne27 : Go.Deep.oneCellFields Try.prog (match Try.prog.underlying 27 with | some (.struct fs) => fs | _ => #[]) = true := by kernel_rfl
set_option maxHeartbeats 800000 in
set_option maxRecDepth 4000 in
theorem contract (H : Type) (enc : TypeId × Value → H) (W : World) (base : Nat) (args : Array Value) (ds gs : List (DataW H)) (before : List MemPlace)
    (hval0 : ∀ (j : Nat) t v, Try.f5.params[j]? = some t → args[j]? = some v → Value.okWide Try.prog W .any base t v)
    (hW : DataW.Whole enc Try.prog Try.f5.params.toList Rows.gprimeOverSpec.vars false W args.toList ds gs before) (hk : Rows.uptoSmall H (ds ++ gs) = true) :
    Calls Try.prog 5 args W fun e W' => ∃ v, e = .returned v ∧ Rows.gprimeOverSpec.post enc Try.prog Try.f5 false true false false W args v W' := by
  have hval := hval0
  have hW' := hW
  obtain ⟨p, q, hA0, hV, rfl, hfz, hnd⟩ := hW
  have hA : DataW.TrodAll enc Try.prog W 0 (fun _ => true) true Try.f5.params.toList args.toList ds p := hA0
  rw [Try.params5] at hA hval
  obtain ⟨v0, vs0, d0, ds0, p0, q0, hargs, rfl, rfl, h0, r0⟩ := trodAll_cons hA
  obtain ⟨rfl, rfl, rfl⟩ := trodAll_nil r0
  obtain rfl : args = #[v0] := by cases args; simp_all
  obtain ⟨rfl, rfl⟩ := trodVars_none hV
  have hbulk := bound hk
  have k0 := h0
  have lt0 : ∀ x ∈ p0, x.block < W.heap.size := by obtain ⟨m, hm⟩ := k0; exact DataW.trod_lt m _ _ _ hm
  have bk0 : Rows.uptoBulk d0 ≤ 1048576 := Nat.le_trans (part_le (by simp)) hbulk
  have hone0 : Go.Deep.oneCellFields Try.prog _ = true := zOne27
  obtain ⟨cc0, s0, yy0, y0, m0, rfl, hd0, _, tb0, ts0⟩ := Go.Joins.open_agg2 Try.underlying27 hone0 zTwo27 (hval 0 27 v0 rfl rfl) h0
  obtain ⟨b0, hb0, _⟩ := DataW.trod_bool Try.underlying4 tb0
  obtain rfl : cc0 = .bool b0 := by simpa using hb0
  have bs0 : Rows.uptoBulk y0.1 ≤ 1048576 := by
    rw [hd0] at bk0
    simp only [Rows.uptoBulk, Rows.uptoBulkAll] at bk0
    omega
  obtain ⟨z0, w0, lz0⟩ : ∃ xs, Rd W s0 xs ∧ xs.length ≤ 1048576 := by
    rcases open_ints Try.underlying25 Try.underlying76 (by kernel_rfl) ts0 with ⟨hcs, _⟩ | ⟨x, l, c, zs, hcs, _, hl, hm, hz, hx, hcell, hwz⟩
    · obtain rfl : s0 = .slice none 0 0 := by simpa using hcs
      exact ⟨[], ⟨none, 0, rfl, Nat.le_refl _, Dig.OK.nil, .inl rfl⟩, by simp⟩
    · obtain rfl : s0 = .slice (some x) l c := by simpa using hcs
      have hz' : zs.length = c := by simpa using hz
      refine ⟨_, rd_of hl hz' hcell hwz, ?_⟩
      have hd : y0.1 = .slice (lits .u32 (zs.take l)) (lits .u32 (zs.drop l)) := congrArg Prod.fst hx
      rw [hd] at bs0
      have h1 := slice_le (lits (H := H) .u32 (zs.take l)) (lits .u32 (zs.drop l))
      simp only [lits_len] at h1
      simp only [List.length_map]
      omega
  clear hA0 hval0
  refine (walk_GprimeOver W b0 s0 z0 w0 lz0).mono fun e W' ⟨he, bel⟩ => ?_
  subst he
  exact ⟨_, rfl, _, _, _, [], _, [], hW', trodAll_mk1 (shut_bool Try.underlying4 _), (trodAll_cons_mk (Below.trod laidOut (by kernel_rfl) (of_decide_eq_true (by kernel_rfl)) k0 bel lt0) trodAll_mk0), rfl, bel.frame _, fun h => by cases h⟩
set_option maxRecDepth 100000 in
theorem liftedUpto (os : Os) (started : os.Started) (H : Type) (enc : TypeId × Value → H) (F : Stop.Interp) :
    ReturnsInHanded {} Try.checked os 5 .any ((Rows.OpenSpec.upto Rows.gprimeOverSpec).pre6 enc Try.prog Try.f5 Rows.gprimeOverUptoRow.domain false) (((Rows.OpenSpec.upto Rows.gprimeOverSpec).at F).post enc Try.prog Try.f5 false true false false) := by
  refine returnsInHanded_of_cond (C := Try.checked) (s := Rows.OpenSpec.upto Rows.gprimeOverSpec) (k := Rows.uptoSmall) rfl own started (by kernel_rfl) Try.func5
    (OpenSpec.witness (enc := enc) (C := Try.checked) (s := Rows.OpenSpec.upto Rows.gprimeOverSpec) (k := Rows.uptoSmall) rfl false ⟨#[], #[.agg #[.bool false, .slice none 0 0]], []⟩ 8 (by kernel_rfl) (by kernel_rfl) (by kernel_rfl)
      (x := ([.agg [.lit (.bool false), .nil]], [], [])) (by kernel_rfl) rfl (by kernel_rfl)) ?_
  intro W base args ds gs before hval hW _ hk _
  exact contract H enc W base args ds gs before hval hW hk
theorem saidUpto : Rows.GprimeOverUptoSaid :=
  OpenClaim.holds_of_cond 5 Try.f5 rfl rfl rfl rfl rfl rfl rfl ⟨rfl, rfl, rfl, rfl, rfl⟩ rfl rfl rfl rfl rfl (by kernel_rfl) Try.func5 (by kernel_rfl)
    (of_decide_eq_true (by kernel_rfl)) (by unfold Func.isWrapper; first | (rw [if_pos (by decide +kernel)]; kernel_rfl) | (rw [if_neg (by decide +kernel)]; exact ⟨rfl, rfl⟩))
    (fun os started H enc _ F => liftedUpto os started H enc F)
end Go.Proofs.Ytbiiglcfdphmaaa.gprimeOver

