/- 'GfracSingle' holds for every input of bulk at most 1048576, whatever the world about it, where the library's listed tables hold what the program's text lays. The walk: YthlhekkcjficdaaGreatDoorVGfracSingle. -/
import Derived.Test.YthlhekkcjficdaaGreatDoorCards
import Derived.Test.YthlhekkcjficdaaGreatDoorTie
import Derived.ProofKit
import Derived.OpenShut
import Derived.ShutString
import Derived.Deep.DeepHandedRow
import Derived.Lib.LaidTab
import Derived.Lib.SmallJoins
import Derived.Test.YthlhekkcjficdaaGreatDoorVGfracSingle
namespace Go.Proofs.YthlhekkcjficdaaGreatDoor.gfracSingle
open Go.ChangeShapes Go.WideShapes Go.ChangeAt Go.RowKit
set_option maxHeartbeats 800000
set_option maxRecDepth 100000
open Go.ChangeMaps (open_string shut_string)
set_option linter.unusedVariables false
theorem own : ownKnob Tryz.prog.godebug = none := by kernel_rfl
theorem laidOut : laidOutB Tryz.prog = true := by kernel_rfl
theorem laidTail {P : Program} {x : String × DataW Unit} {r : List (String × DataW Unit)} {w : World} (h : laidMet P (x :: r) w) : laidMet P r w := by
 obtain ⟨n, d⟩ := x
 obtain ⟨ps, hl, hnd, hc⟩ := h
 obtain ⟨g, t, cs, fuel, p, q, h1, h2, h3, h4, h5, rfl⟩ := hl
 exact ⟨q, h5, (List.nodup_append.1 hnd).2.1, fun b off hb => hc b off (List.mem_append.2 (.inr hb))⟩
theorem gTab : Tryz.prog.globalNamed p10 = some 4 := by kernel_rfl
theorem gTabType : (Tryz.prog.globals[4]?).map (·.type) = some 216 := by kernel_rfl
theorem cellsT : Tryz.prog.cellsOf 216 = 20 := by kernel_rfl
theorem cellsE : Tryz.prog.cellsOf 58 = 1 := by kernel_rfl
theorem table {W : World} (h : laidMetH Tryz.prog Rows.gfracSingleRow.laid W) : Lib.TabIs Tryz.prog W p10 .u64 Lib.pow10Tab :=
 Lib.tabIs_of_head gTab gTabType Tryz.underlying216 Tryz.underlying58 cellsE cellsT (laidTail (laidTail h))
def fill (h : Array Obj) : Array Obj := (((h).modify 5 (fun | .cells _ t frozen => .cells #[.int .u8 0, .int .u8 1, .int .u8 28, .int .u8 2, .int .u8 29, .int .u8 14, .int .u8 24, .int .u8 3, .int .u8 30, .int .u8 22, .int .u8 20, .int .u8 15, .int .u8 25, .int .u8 17, .int .u8 4, .int .u8 8, .int .u8 31, .int .u8 27, .int .u8 13, .int .u8 23, .int .u8 21, .int .u8 19, .int .u8 16, .int .u8 7, .int .u8 26, .int .u8 12, .int .u8 18, .int .u8 6, .int .u8 11, .int .u8 5, .int .u8 10, .int .u8 9] t frozen | o => o)).modify 6 (fun | .cells _ t frozen => .cells #[.int .u8 0, .int .u8 1, .int .u8 56, .int .u8 2, .int .u8 57, .int .u8 49, .int .u8 28, .int .u8 3, .int .u8 61, .int .u8 58, .int .u8 42, .int .u8 50, .int .u8 38, .int .u8 29, .int .u8 17, .int .u8 4, .int .u8 62, .int .u8 47, .int .u8 59, .int .u8 36, .int .u8 45, .int .u8 43, .int .u8 51, .int .u8 22, .int .u8 53, .int .u8 39, .int .u8 33, .int .u8 30, .int .u8 24, .int .u8 18, .int .u8 12, .int .u8 5, .int .u8 63, .int .u8 55, .int .u8 48, .int .u8 27, .int .u8 60, .int .u8 41, .int .u8 37, .int .u8 16, .int .u8 46, .int .u8 35, .int .u8 44, .int .u8 21, .int .u8 52, .int .u8 32, .int .u8 23, .int .u8 11, .int .u8 54, .int .u8 26, .int .u8 40, .int .u8 15, .int .u8 34, .int .u8 20, .int .u8 31, .int .u8 10, .int .u8 25, .int .u8 14, .int .u8 19, .int .u8 9, .int .u8 13, .int .u8 8, .int .u8 7, .int .u8 6] t frozen | o => o)).modify 4 (fun | .cells _ t frozen => .cells #[.int .u64 1, .int .u64 10, .int .u64 100, .int .u64 1000, .int .u64 10000, .int .u64 100000, .int .u64 1000000, .int .u64 10000000, .int .u64 100000000, .int .u64 1000000000, .int .u64 10000000000, .int .u64 100000000000, .int .u64 1000000000000, .int .u64 10000000000000, .int .u64 100000000000000, .int .u64 1000000000000000, .int .u64 10000000000000000, .int .u64 100000000000000000, .int .u64 1000000000000000000, .int .u64 10000000000000000000] t frozen | o => o)
theorem laid_met (os : Os) : laidMet Tryz.prog Rows.gfracSingleRow.laid (({ World.holding Tryz.prog os ⟨#[], #[], []⟩ with heap := fill (World.holding Tryz.prog os ⟨#[], #[], []⟩).heap } : World).forCall (fun _ _ => 0) ⟨#[], #[.agg #[.bool false, .slice none 0 0, .bool false, .slice none 0 0, .bool false, .slice none 0 0, .bool false, .slice none 0 0], .agg #[.bool false, .slice none 0 0, .bool false, .slice none 0 0], .int .u64 0, .int .u64 0], []⟩).memory :=
 laidMet_of_run' 8 (by kernel_rfl) (by kernel_rfl)
theorem reads (os : Os) {H : Type} (enc : TypeId × Value → H) : ∃ places, DataW.whole enc Tryz.prog (({ World.holding Tryz.prog os ⟨#[], #[], []⟩ with heap := fill (World.holding Tryz.prog os ⟨#[], #[], []⟩).heap } : World).forCall (fun _ _ => 0) ⟨#[], #[.agg #[.bool false, .slice none 0 0, .bool false, .slice none 0 0, .bool false, .slice none 0 0, .bool false, .slice none 0 0], .agg #[.bool false, .slice none 0 0, .bool false, .slice none 0 0], .int .u64 0, .int .u64 0], []⟩).memory Tryz.f5.params.toList Rows.gfracSingleSpec.vars false (#[.agg #[.bool false, .slice none 0 0, .bool false, .slice none 0 0, .bool false, .slice none 0 0, .bool false, .slice none 0 0], .agg #[.bool false, .slice none 0 0, .bool false, .slice none 0 0], .int .u64 0, .int .u64 0] : Array Value).toList 8 = some ([.agg [.agg [.agg [.lit (.bool false), .nil], .agg [.lit (.bool false), .nil]], .agg [.agg [.lit (.bool false), .nil], .agg [.lit (.bool false), .nil]]], .agg [.agg [.lit (.bool false), .nil], .agg [.lit (.bool false), .nil]], .lit (.int .u64 0), .lit (.int .u64 0)], [], places) :=
 ⟨[], by kernel_rfl⟩
theorem one_le {H : Type} (d : DataW H) : 1 ≤ Rows.uptoBulk d := by
 cases d with
 | lit l => cases l <;> simp [Rows.uptoBulk]
 | nil => simp [Rows.uptoBulk]
 | ptr d => simp [Rows.uptoBulk]
 | slice elems spare => simp [Rows.uptoBulk]
 | agg parts => simp [Rows.uptoBulk]
 | iface t d => simp [Rows.uptoBulk]
 | map entries => simp [Rows.uptoBulk]
 | held h => simp [Rows.uptoBulk]
theorem part_le {H : Type} {d : DataW H} {l : List (DataW H)} (h : d ∈ l) : Rows.uptoBulk d ≤ Rows.uptoBulkAll l := by
 induction l with
 | nil => cases h
 | cons x r ih =>
   simp only [Rows.uptoBulkAll]
   cases List.mem_cons.1 h with
   | inl e => subst e; omega
   | inr e => have := ih e; omega
theorem length_le {H : Type} (l : List (DataW H)) : l.length ≤ Rows.uptoBulkAll l := by
 induction l with
 | nil => simp [Rows.uptoBulkAll]
 | cons x r ih => have := one_le x; simp only [Rows.uptoBulkAll, List.length_cons]; omega
theorem slice_le {H : Type} (elems spare : List (DataW H)) : elems.length + spare.length + 1 ≤ Rows.uptoBulk (.slice elems spare) := by
 have h1 := length_le elems
 have h2 := length_le spare
 simp only [Rows.uptoBulk]
 omega
theorem lits_len {H : Type} (k : IntKind) (zs : List Int) : (lits (H := H) k zs).length = zs.length := by simp [lits]
theorem bound {H : Type} {l : List (DataW H)} (hk : Rows.uptoSmall H l = true) : Rows.uptoBulkAll l ≤ 1048576 := of_decide_eq_true hk
theorem rd_of {W : World} {x : Addr} {len cap : Nat} {zs : List Int} (hl : len ≤ cap) (hz : zs.length = cap) (hcell : ∀ i, i < zs.length → W.cell? (x.add i) = some (.int .u32 (zs.getD i 0))) (hwz : ∀ n ∈ zs, (Lit.int .u32 n).wf = true) :
   Rd W (.slice (some x) len cap) ((zs.take len).map Int.toNat) := by
 have hlen : ((zs.take len).map Int.toNat).length = len := by rw [List.length_map, List.length_take]; omega
 have hnn : ∀ i, i < zs.length → 0 ≤ zs.getD i 0 ∧ zs.getD i 0 < 4294967296 := fun i hi => by
   have hm : zs.getD i 0 ∈ zs := by simp [List.getD, List.getElem?_eq_getElem hi]
   have h := bounds_u32 (hwz _ hm)
   omega
 refine ⟨some x, cap, by rw [hlen], by rw [hlen]; exact hl, ?_, ?_⟩
 · intro d hd
   obtain ⟨z, hz', rfl⟩ := List.mem_map.1 hd
   obtain ⟨i, hi, e⟩ := List.getElem_of_mem (List.mem_of_mem_take hz')
   have := hnn i hi
   have e2 : zs.getD i 0 = z := by simp [List.getD, List.getElem?_eq_getElem hi, e]
   omega
 · by_cases h0 : len = 0
   · subst h0; exact .inl rfl
   · have hsp : x.spot = none := by
       have := hcell 0 (by omega)
       have e : x.add 0 = x := by simp [Addr.add]
       rw [e] at this
       cases hx : x.spot with
       | none => rfl
       | some s =>
         simp only [World.cell?, hx] at this
         split at this <;> simp at this
     obtain ⟨b, off, sp⟩ := x
     simp only at hsp
     subst hsp
     refine .inr ⟨b, off, rfl, fun i hi => ?_⟩
     rw [hlen] at hi
     have := hcell i (by omega)
     rw [Lib.add_plain] at this
     rw [this]
     have h1 := hnn i (by omega)
     have e : ((zs.take len).map Int.toNat)[i]?.getD 0 = (zs.getD i 0).toNat := by
       simp [List.getD, List.getElem?_take_of_lt hi, List.getElem?_eq_getElem (show i < zs.length by omega)]
     rw [e, Int.toNat_of_nonneg h1.1]
theorem arr8 {α : Type} {cs : Array α} (h : cs.size = 8) : ∃ c0 c1 c2 c3 c4 c5 c6 c7, cs = #[c0, c1, c2, c3, c4, c5, c6, c7] := by
 obtain ⟨l⟩ := cs
 match l, h with
 | [c0, c1, c2, c3, c4, c5, c6, c7], _ => exact ⟨c0, c1, c2, c3, c4, c5, c6, c7, rfl⟩
theorem pFour26 : Tryz.prog.cellsOf 26 = 4 := by kernel_rfl
theorem cEight28 : Tryz.prog.cellsOf 28 = 8 := by kernel_rfl
theorem zTwo24 : Tryz.prog.cellsOf 24 = 2 := by kernel_rfl
theorem pFour41 : Tryz.prog.cellsOf 41 = 4 := by kernel_rfl
theorem contract (H : Type) (enc : TypeId × Value → H) (W : World) (base : Nat) (args : Array Value) (ds gs : List (DataW H)) (before : List MemPlace)
   (hval0 : ∀ (j : Nat) t v, Tryz.f5.params[j]? = some t → args[j]? = some v → Value.okWide Tryz.prog W .any base t v)
   (hW : DataW.Whole enc Tryz.prog Tryz.f5.params.toList Rows.gfracSingleSpec.vars false W args.toList ds gs before) (hk : Rows.uptoSmall H (ds ++ gs) = true) (hL : laidMetH Tryz.prog Rows.gfracSingleRow.laid W) :
   Calls Tryz.prog 5 args W fun e W' => ∃ v, e = .returned v ∧ Rows.gfracSingleSpec.post enc Tryz.prog Tryz.f5 false true false false W args v W' := by
 have hval := hval0
 have hW' := hW
 obtain ⟨p, q, hA0, hV, rfl, hfz, hnd⟩ := hW
 have hA : DataW.TrodAll enc Tryz.prog W 0 (fun _ => true) true Tryz.f5.params.toList args.toList ds p := hA0
 rw [Tryz.params5] at hA hval
 obtain ⟨v0, vs0, d0, ds0, p0, q0, hargs, rfl, rfl, h0, r0⟩ := trodAll_cons hA
 obtain ⟨v1, vs1, d1, ds1, p1, q1, rfl, rfl, rfl, h1, r1⟩ := trodAll_cons r0
 obtain ⟨v2, vs2, d2, ds2, p2, q2, rfl, rfl, rfl, h2, r2⟩ := trodAll_cons r1
 obtain ⟨v3, vs3, d3, ds3, p3, q3, rfl, rfl, rfl, h3, r3⟩ := trodAll_cons r2
 obtain ⟨rfl, rfl, rfl⟩ := trodAll_nil r3
 obtain rfl : args = #[v0, v1, v2, v3] := by cases args; simp_all
 obtain ⟨rfl, rfl⟩ := trodVars_none hV
 have hbulk := bound hk
 have k0 := h0
 have lt0 : ∀ x ∈ p0, x.block < W.heap.size := by obtain ⟨m, hm⟩ := k0; exact DataW.trod_lt m _ _ _ hm
 have bk0 : Rows.uptoBulk d0 ≤ 1048576 := Nat.le_trans (part_le (by simp)) hbulk
 obtain ⟨cs0, rfl, sz0⟩ := okWide_struct Tryz.underlying28 (hval 0 28 v0 rfl rfl)
 obtain ⟨c0_0, c0_1, c0_2, c0_3, c0_4, c0_5, c0_6, c0_7, rfl⟩ := arr8 (sz0.trans cEight28)
 obtain ⟨fl0, hf0⟩ := h0
 obtain ⟨Y00, Y01, M0, HX0, _, T00, T01⟩ := Go.ChangeShapes.trod_struct2 Tryz.underlying28 hf0
 simp only [Prod.mk.injEq] at HX0
 obtain ⟨HX0, _⟩ := HX0
 simp only [Value.cells, pFour26, List.drop, List.take] at T00 T01
 obtain ⟨y00, y01, m00, hq00, _, t00, t01⟩ := Go.ChangeShapes.trod_struct2 Tryz.underlying26 T00
 replace hq00 := congrArg Prod.fst hq00
 dsimp only at hq00
 simp only [zTwo24, List.drop, List.take] at t00 t01
 obtain ⟨y02, y03, m01, hq01, _, t02, t03⟩ := Go.ChangeShapes.trod_struct2 Tryz.underlying26 T01
 replace hq01 := congrArg Prod.fst hq01
 dsimp only at hq01
 simp only [zTwo24, List.drop, List.take] at t02 t03
 obtain ⟨y00b, y00s, m00, hx00, _, tb00, ts00⟩ := Go.ChangeShapes.trod_struct2 Tryz.underlying24 t00
 replace hx00 := congrArg Prod.fst hx00
 dsimp only at hx00
 simp only [show Tryz.prog.cellsOf 4 = 1 by kernel_rfl, List.drop, List.take] at tb00
 simp only [show Tryz.prog.cellsOf 22 = 1 by kernel_rfl, List.drop, List.take] at ts00
 obtain ⟨b00, hb00, _⟩ := DataW.trod_bool Tryz.underlying4 tb00
 obtain rfl : c0_0 = .bool b00 := by simpa using hb00
 obtain ⟨y01b, y01s, m01, hx01, _, tb01, ts01⟩ := Go.ChangeShapes.trod_struct2 Tryz.underlying24 t01
 replace hx01 := congrArg Prod.fst hx01
 dsimp only at hx01
 simp only [show Tryz.prog.cellsOf 4 = 1 by kernel_rfl, List.drop, List.take] at tb01
 simp only [show Tryz.prog.cellsOf 22 = 1 by kernel_rfl, List.drop, List.take] at ts01
 obtain ⟨b01, hb01, _⟩ := DataW.trod_bool Tryz.underlying4 tb01
 obtain rfl : c0_2 = .bool b01 := by simpa using hb01
 obtain ⟨y02b, y02s, m02, hx02, _, tb02, ts02⟩ := Go.ChangeShapes.trod_struct2 Tryz.underlying24 t02
 replace hx02 := congrArg Prod.fst hx02
 dsimp only at hx02
 simp only [show Tryz.prog.cellsOf 4 = 1 by kernel_rfl, List.drop, List.take] at tb02
 simp only [show Tryz.prog.cellsOf 22 = 1 by kernel_rfl, List.drop, List.take] at ts02
 obtain ⟨b02, hb02, _⟩ := DataW.trod_bool Tryz.underlying4 tb02
 obtain rfl : c0_4 = .bool b02 := by simpa using hb02
 obtain ⟨y03b, y03s, m03, hx03, _, tb03, ts03⟩ := Go.ChangeShapes.trod_struct2 Tryz.underlying24 t03
 replace hx03 := congrArg Prod.fst hx03
 dsimp only at hx03
 simp only [show Tryz.prog.cellsOf 4 = 1 by kernel_rfl, List.drop, List.take] at tb03
 simp only [show Tryz.prog.cellsOf 22 = 1 by kernel_rfl, List.drop, List.take] at ts03
 obtain ⟨b03, hb03, _⟩ := DataW.trod_bool Tryz.underlying4 tb03
 obtain rfl : c0_6 = .bool b03 := by simpa using hb03
 have bs0 : (Rows.uptoBulk y00s.1 ≤ 1048576 ∧ Rows.uptoBulk y01s.1 ≤ 1048576) ∧ Rows.uptoBulk y02s.1 ≤ 1048576 ∧ Rows.uptoBulk y03s.1 ≤ 1048576 := by
   rw [HX0, hq00, hq01, hx00, hx01, hx02, hx03] at bk0
   simp only [Rows.uptoBulk, Rows.uptoBulkAll] at bk0
   omega
 have bs00 := bs0.1.1
 obtain ⟨z00, w00, lz00⟩ : ∃ xs, Rd W c0_1 xs ∧ xs.length ≤ 1048576 := by
   rcases open_ints Tryz.underlying22 Tryz.underlying119 (by kernel_rfl) ts00 with ⟨hcs, _⟩ | ⟨x, l, c, zs, hcs, _, hl, hm, hz, hx, hcell, hwz⟩
   · obtain rfl : c0_1 = .slice none 0 0 := by simpa using hcs
     exact ⟨[], ⟨none, 0, rfl, Nat.le_refl _, Dig.OK.nil, .inl rfl⟩, by simp⟩
   · obtain rfl : c0_1 = .slice (some x) l c := by simpa using hcs
     have hz' : zs.length = c := by simpa using hz
     refine ⟨_, rd_of hl hz' hcell hwz, ?_⟩
     have hd : y00s.1 = .slice (lits .u32 (zs.take l)) (lits .u32 (zs.drop l)) := congrArg Prod.fst hx
     rw [hd] at bs00
     have h1 := slice_le (lits (H := H) .u32 (zs.take l)) (lits .u32 (zs.drop l))
     simp only [lits_len] at h1
     simp only [List.length_map]
     omega
 have bs01 := bs0.1.2
 obtain ⟨z01, w01, lz01⟩ : ∃ xs, Rd W c0_3 xs ∧ xs.length ≤ 1048576 := by
   rcases open_ints Tryz.underlying22 Tryz.underlying119 (by kernel_rfl) ts01 with ⟨hcs, _⟩ | ⟨x, l, c, zs, hcs, _, hl, hm, hz, hx, hcell, hwz⟩
   · obtain rfl : c0_3 = .slice none 0 0 := by simpa using hcs
     exact ⟨[], ⟨none, 0, rfl, Nat.le_refl _, Dig.OK.nil, .inl rfl⟩, by simp⟩
   · obtain rfl : c0_3 = .slice (some x) l c := by simpa using hcs
     have hz' : zs.length = c := by simpa using hz
     refine ⟨_, rd_of hl hz' hcell hwz, ?_⟩
     have hd : y01s.1 = .slice (lits .u32 (zs.take l)) (lits .u32 (zs.drop l)) := congrArg Prod.fst hx
     rw [hd] at bs01
     have h1 := slice_le (lits (H := H) .u32 (zs.take l)) (lits .u32 (zs.drop l))
     simp only [lits_len] at h1
     simp only [List.length_map]
     omega
 have bs02 := bs0.2.1
 obtain ⟨z02, w02, lz02⟩ : ∃ xs, Rd W c0_5 xs ∧ xs.length ≤ 1048576 := by
   rcases open_ints Tryz.underlying22 Tryz.underlying119 (by kernel_rfl) ts02 with ⟨hcs, _⟩ | ⟨x, l, c, zs, hcs, _, hl, hm, hz, hx, hcell, hwz⟩
   · obtain rfl : c0_5 = .slice none 0 0 := by simpa using hcs
     exact ⟨[], ⟨none, 0, rfl, Nat.le_refl _, Dig.OK.nil, .inl rfl⟩, by simp⟩
   · obtain rfl : c0_5 = .slice (some x) l c := by simpa using hcs
     have hz' : zs.length = c := by simpa using hz
     refine ⟨_, rd_of hl hz' hcell hwz, ?_⟩
     have hd : y02s.1 = .slice (lits .u32 (zs.take l)) (lits .u32 (zs.drop l)) := congrArg Prod.fst hx
     rw [hd] at bs02
     have h1 := slice_le (lits (H := H) .u32 (zs.take l)) (lits .u32 (zs.drop l))
     simp only [lits_len] at h1
     simp only [List.length_map]
     omega
 have bs03 := bs0.2.2
 obtain ⟨z03, w03, lz03⟩ : ∃ xs, Rd W c0_7 xs ∧ xs.length ≤ 1048576 := by
   rcases open_ints Tryz.underlying22 Tryz.underlying119 (by kernel_rfl) ts03 with ⟨hcs, _⟩ | ⟨x, l, c, zs, hcs, _, hl, hm, hz, hx, hcell, hwz⟩
   · obtain rfl : c0_7 = .slice none 0 0 := by simpa using hcs
     exact ⟨[], ⟨none, 0, rfl, Nat.le_refl _, Dig.OK.nil, .inl rfl⟩, by simp⟩
   · obtain rfl : c0_7 = .slice (some x) l c := by simpa using hcs
     have hz' : zs.length = c := by simpa using hz
     refine ⟨_, rd_of hl hz' hcell hwz, ?_⟩
     have hd : y03s.1 = .slice (lits .u32 (zs.take l)) (lits .u32 (zs.drop l)) := congrArg Prod.fst hx
     rw [hd] at bs03
     have h1 := slice_le (lits (H := H) .u32 (zs.take l)) (lits .u32 (zs.drop l))
     simp only [lits_len] at h1
     simp only [List.length_map]
     omega
 have k1 := h1
 have lt1 : ∀ x ∈ p1, x.block < W.heap.size := by obtain ⟨m, hm⟩ := k1; exact DataW.trod_lt m _ _ _ hm
 have bk1 : Rows.uptoBulk d1 ≤ 1048576 := Nat.le_trans (part_le (by simp)) hbulk
 obtain ⟨cs1, rfl, sz1⟩ := okWide_struct Tryz.underlying41 (hval 1 41 v1 rfl rfl)
 obtain ⟨c10, c11, c12, c13, rfl⟩ := Go.Joins.array4 (sz1.trans pFour41)
 obtain ⟨fl1, hf1⟩ := h1
 obtain ⟨y10, y11, m1, hx1, _, t10, t11⟩ := Go.ChangeShapes.trod_struct2 Tryz.underlying41 hf1
 simp only [Prod.mk.injEq] at hx1
 obtain ⟨hx1, _⟩ := hx1
 simp only [Value.cells, zTwo24, List.drop, List.take] at t10 t11
 obtain ⟨y10b, y10s, m10, hx10, _, tb10, ts10⟩ := Go.ChangeShapes.trod_struct2 Tryz.underlying24 t10
 replace hx10 := congrArg Prod.fst hx10
 dsimp only at hx10
 simp only [show Tryz.prog.cellsOf 4 = 1 by kernel_rfl, List.drop, List.take] at tb10
 simp only [show Tryz.prog.cellsOf 22 = 1 by kernel_rfl, List.drop, List.take] at ts10
 obtain ⟨b10, hb10, _⟩ := DataW.trod_bool Tryz.underlying4 tb10
 obtain rfl : c10 = .bool b10 := by simpa using hb10
 obtain ⟨y11b, y11s, m11, hx11, _, tb11, ts11⟩ := Go.ChangeShapes.trod_struct2 Tryz.underlying24 t11
 replace hx11 := congrArg Prod.fst hx11
 dsimp only at hx11
 simp only [show Tryz.prog.cellsOf 4 = 1 by kernel_rfl, List.drop, List.take] at tb11
 simp only [show Tryz.prog.cellsOf 22 = 1 by kernel_rfl, List.drop, List.take] at ts11
 obtain ⟨b11, hb11, _⟩ := DataW.trod_bool Tryz.underlying4 tb11
 obtain rfl : c12 = .bool b11 := by simpa using hb11
 have bs1 : Rows.uptoBulk y10s.1 ≤ 1048576 ∧ Rows.uptoBulk y11s.1 ≤ 1048576 := by
   rw [hx1, hx10, hx11] at bk1
   simp only [Rows.uptoBulk, Rows.uptoBulkAll] at bk1
   omega
 have bs10 := bs1.1
 obtain ⟨z10, w10, lz10⟩ : ∃ xs, Rd W c11 xs ∧ xs.length ≤ 1048576 := by
   rcases open_ints Tryz.underlying22 Tryz.underlying119 (by kernel_rfl) ts10 with ⟨hcs, _⟩ | ⟨x, l, c, zs, hcs, _, hl, hm, hz, hx, hcell, hwz⟩
   · obtain rfl : c11 = .slice none 0 0 := by simpa using hcs
     exact ⟨[], ⟨none, 0, rfl, Nat.le_refl _, Dig.OK.nil, .inl rfl⟩, by simp⟩
   · obtain rfl : c11 = .slice (some x) l c := by simpa using hcs
     have hz' : zs.length = c := by simpa using hz
     refine ⟨_, rd_of hl hz' hcell hwz, ?_⟩
     have hd : y10s.1 = .slice (lits .u32 (zs.take l)) (lits .u32 (zs.drop l)) := congrArg Prod.fst hx
     rw [hd] at bs10
     have h1 := slice_le (lits (H := H) .u32 (zs.take l)) (lits .u32 (zs.drop l))
     simp only [lits_len] at h1
     simp only [List.length_map]
     omega
 have bs11 := bs1.2
 obtain ⟨z11, w11, lz11⟩ : ∃ xs, Rd W c13 xs ∧ xs.length ≤ 1048576 := by
   rcases open_ints Tryz.underlying22 Tryz.underlying119 (by kernel_rfl) ts11 with ⟨hcs, _⟩ | ⟨x, l, c, zs, hcs, _, hl, hm, hz, hx, hcell, hwz⟩
   · obtain rfl : c13 = .slice none 0 0 := by simpa using hcs
     exact ⟨[], ⟨none, 0, rfl, Nat.le_refl _, Dig.OK.nil, .inl rfl⟩, by simp⟩
   · obtain rfl : c13 = .slice (some x) l c := by simpa using hcs
     have hz' : zs.length = c := by simpa using hz
     refine ⟨_, rd_of hl hz' hcell hwz, ?_⟩
     have hd : y11s.1 = .slice (lits .u32 (zs.take l)) (lits .u32 (zs.drop l)) := congrArg Prod.fst hx
     rw [hd] at bs11
     have h1 := slice_le (lits (H := H) .u32 (zs.take l)) (lits .u32 (zs.drop l))
     simp only [lits_len] at h1
     simp only [List.length_map]
     omega
 have k2 := h2
 have lt2 : ∀ x ∈ p2, x.block < W.heap.size := by obtain ⟨m, hm⟩ := k2; exact DataW.trod_lt m _ _ _ hm
 obtain ⟨n2, rfl, e2, _, wf2⟩ := open_int Tryz.underlying58 (hval 2 58 v2 rfl rfl) h2
 have bd2 : 0 ≤ n2 ∧ n2 ≤ 18446744073709551615 := by have := bounds_u64 wf2; omega
 have k3 := h3
 have lt3 : ∀ x ∈ p3, x.block < W.heap.size := by obtain ⟨m, hm⟩ := k3; exact DataW.trod_lt m _ _ _ hm
 obtain ⟨n3, rfl, e3, _, wf3⟩ := open_int Tryz.underlying58 (hval 3 58 v3 rfl rfl) h3
 have bd3 : 0 ≤ n3 ∧ n3 ≤ 18446744073709551615 := by have := bounds_u64 wf3; omega
 clear hA0 hval0
 refine (walk_GfracSingle W b00 c0_1 z00 w00 lz00 b01 c0_3 z01 w01 lz01 b02 c0_5 z02 w02 lz02 b03 c0_7 z03 w03 lz03 b10 c11 z10 w10 lz10 b11 c13 z11 w11 lz11 n2 bd2.1 bd2.2 n3 bd3.1 bd3.2 (table hL)).mono fun e W' ⟨he, bel⟩ => ?_
 subst he
 exact ⟨_, rfl, _, _, _, [], _, [], hW', trodAll_mk1 (shut_bool Tryz.underlying4 _), (trodAll_cons_mk (Below.trod laidOut (by kernel_rfl) (of_decide_eq_true (by kernel_rfl)) k0 bel lt0) (trodAll_cons_mk (Below.trod laidOut (by kernel_rfl) (of_decide_eq_true (by kernel_rfl)) k1 bel lt1) (trodAll_cons_mk (Below.trod laidOut (by kernel_rfl) (of_decide_eq_true (by kernel_rfl)) k2 bel lt2) (trodAll_cons_mk (Below.trod laidOut (by kernel_rfl) (of_decide_eq_true (by kernel_rfl)) k3 bel lt3) trodAll_mk0)))), rfl, bel.frame _, fun h => by cases h⟩
theorem liftedUpto (os : Os) (started : os.Started) (H : Type) (enc : TypeId × Value → H) (F : Stop.Interp) :
   ReturnsInHanded {} Tryz.checked os 5 .any ((Rows.OpenSpec.upto Rows.gfracSingleSpec).preRow enc Tryz.prog Tryz.f5 Rows.gfracSingleUptoRow.domain false Rows.gfracSingleUptoRow.laid) (((Rows.OpenSpec.upto Rows.gfracSingleSpec).at F).post enc Tryz.prog Tryz.f5 false true false false) := by
 obtain ⟨places, hx⟩ := reads os enc
 refine returnsInHanded_of_row (C := Tryz.checked) (s := Rows.OpenSpec.upto Rows.gfracSingleSpec) own started (by kernel_rfl) Tryz.func5
   (witness_row_at (enc := enc) (C := Tryz.checked) false ({ World.holding Tryz.prog os ⟨#[], #[], []⟩ with heap := fill (World.holding Tryz.prog os ⟨#[], #[], []⟩).heap } : World) #[.agg #[.bool false, .slice none 0 0, .bool false, .slice none 0 0, .bool false, .slice none 0 0, .bool false, .slice none 0 0], .agg #[.bool false, .slice none 0 0, .bool false, .slice none 0 0], .int .u64 0, .int .u64 0] rfl (by kernel_rfl) (by kernel_rfl) (by kernel_rfl)
     (OpenSpec.preRow_of_cond 8 hx (by kernel_rfl) (fun k hk => by cases hk; kernel_rfl) (by kernel_rfl) (laid_met os))) ?_
 intro W base args ds gs before hval hW _ hcond _ hL _ _
 exact contract H enc W base args ds gs before hval hW (hcond _ rfl) hL
theorem saidUpto : Rows.GfracSingleUptoSaid :=
 OpenClaim.holds_of_cond 5 Tryz.f5 rfl rfl rfl rfl rfl rfl rfl ⟨rfl, rfl, rfl, rfl, rfl⟩ rfl rfl rfl rfl rfl (by kernel_rfl) Tryz.func5 (by kernel_rfl)
   (of_decide_eq_true (by kernel_rfl)) (by unfold Func.isWrapper; first | (rw [if_pos (by decide +kernel)]; kernel_rfl) | (rw [if_neg (by decide +kernel)]; exact ⟨rfl, rfl⟩))
   (fun os started H enc _ F => by rw [OpenClaim.pre_eq_preRow]; exact liftedUpto os started H enc F)
theorem plain (f : FuncId) (fn : Func) (hf : Tryz.pinned.checked.prog.funcNamed Rows.gfracSingleRow.func = some f) (hfn : Tryz.pinned.checked.prog.funcs[f]? = some fn) :
   false = Tryz.pinned.checked.prog.looks [] ∧ ∀ (j : Nat) t, fn.params[j]? = some t → Tryz.pinned.checked.prog.wantsStandIn t = false := by
 obtain rfl : f = 5 := Option.some.inj ((show Tryz.prog.funcNamed Rows.gfracSingleRow.func = some 5 by kernel_rfl).symm.trans hf) |>.symm
 obtain rfl : fn = Tryz.f5 := (Option.some.inj (Tryz.func5.symm.trans hfn)).symm
 refine ⟨by kernel_rfl, fun j t ht => ?_⟩
 have hall : Tryz.f5.params.all (fun t => !Tryz.prog.wantsStandIn t) = true := by kernel_rfl
 have h := Array.all_eq_true_iff_forall_mem.1 hall t (Array.mem_of_getElem? ht)
 have h2 : Tryz.prog.wantsStandIn t = false := by simpa using h
 exact h2
theorem cardUpto : Rows.GfracSingleUptoCardSaid :=
 Claim7.holds_tied_plain_at .later [] _ _ _ _ saidUpto (fun _ h => by cases h) (by kernel_rfl) (fun _ h => by cases h) gfracSingleUpto_row_tie rfl ⟨rfl, rfl⟩ (by kernel_rfl) rfl plain (by kernel_rfl)
#print axioms cardUpto
end Go.Proofs.YthlhekkcjficdaaGreatDoor.gfracSingle
