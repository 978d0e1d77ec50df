/- nat.Text answers the decimal numeral, for slices of at most 10^11 digits, where the table of powers of ten holds. -/
import Derived.Test.YtlomgfgedkkhkaaGreatDoorW7
import Derived.Test.YtlomgfgedkkhkaaGreatDoorDec
import Derived.Lib.Strings
import Derived.Deep.LoopGhost
import Derived.Deep.RegionLaw
namespace Go.Proofs.YtlomgfgedkkhkaaGreatDoor
open Go.RowKit Dig

def gcells (gs : List Nat) : List Value := gs.map fun (g : Nat) => Value.int .u64 (g : Int)
theorem info42 : (Tryz.prog.info? 54).map (fun i => (i.zero, i.size, i.bytes)) = some (some (.int .u64 0), 1, 8) := by kernel_rfl
theorem own_of {w w' : World} {base : Nat} {e : TypeId} {size : Nat} {v : Value} {n : Nat} {xs : List Value} (h : w.ownsRow base e size v n xs) (hk : ∀ g, base ≤ g → g < w.heap.size → w'.heap[g]? = w.heap[g]?) : w'.ownsRow base e size v n xs := by
  obtain ⟨h1, h2⟩ := h
  refine ⟨h1, ?_⟩
  rcases h2 with h2 | ⟨g, cap, cur, hv, hg, hh, r⟩
  · exact Or.inl h2
  · refine Or.inr ⟨g, cap, cur, hv, hg, ?_, r⟩
    rw [hk g hg ?_]
    · exact hh
    · rcases Nat.lt_or_ge g w.heap.size with hb | hb
      · exact hb
      · rw [Array.getElem?_eq_none hb] at hh; cases hh
theorem own_only {w w' : World} {base b : Nat} {e : TypeId} {size : Nat} {v : Value} {n : Nat} {xs : List Value} (h : w.ownsRow base e size v n xs) (ho : Only b w w') (hb : b < base) : w'.ownsRow base e size v n xs :=
  own_of h fun g hg _ => ho.block g (by omega)
theorem own_below {w w' : World} {base : Nat} {e : TypeId} {size : Nat} {v : Value} {n : Nat} {xs : List Value} (h : w.ownsRow base e size v n xs) (hb : Below w.heap.size w w') : w'.ownsRow base e size v n xs :=
  own_of h fun g _ hg => hb.block g hg
def zb (n : Nat) : Array Value := madeCells #[.int .u8 0] n
theorem info5 : (Tryz.prog.info? 5).map (fun i => (i.zero, i.size, i.bytes)) = some (some (.int .u8 0), 1, 1) := by kernel_rfl
theorem mkb_run (L : Int) (n : Nat) (e : L = (n : Int)) (h : n ≤ 140737488355328) (w : World) : (Instr.makeSlice 110 (.int .i64 0) (.int .i64 L)).run Tryz.prog w =
    .ok (.slice (some ⟨w.heap.size, 0, none⟩) 0 n) (w.alloc (.cells (zb n) 5)) := by
  subst e
  obtain ⟨i0, hi, hz0, hz1, hz2⟩ := info_parts info5
  have := run_make (P := Tryz.prog) w 110 5 i0 (.int .u8 0) Tryz.underlying110 hi hz0 .i64 .i64 0 n (by omega) (by omega) (by rw [hz2]; omega) (by omega)
  rw [this, hz1]
  simp only [Int.toNat_natCast, Int.toNat_zero, Nat.mul_one, Value.cells, zb]
theorem seg_strip {xs : List Nat} {m : Nat} : strip (seg xs 0 m) = seg xs 0 (strip (seg xs 0 m)).length := by
  have h := strip_take (seg xs 0 m)
  have hl := strip_length_le (seg xs 0 m)
  rw [h]
  simp only [List.length_take]
  rw [Nat.min_eq_left hl]
  simp only [seg, List.drop_zero] at hl ⊢
  rw [List.take_take]
  congr 1
  simp at hl
  omega
theorem strip_strip (ds : List Nat) : strip (strip ds) = strip ds := by
  induction ds with
  | nil => rfl
  | cons d ds ih =>
    by_cases h : strip ds = [] ∧ d = 0
    · simp [strip, h]
    · simp [strip, h, ih]
theorem extract19 (D : List UInt8) (h : D.length = 10) : ((⟨D.toArray⟩ : ByteArray).extract 1 10).size = 9 ∧ ((⟨D.toArray⟩ : ByteArray).extract 1 10).data.toList = D.drop 1 := by
  have e := Lib.extract_data (⟨D.toArray⟩ : ByteArray) 1 10
  have e2 : List.take (10 - 1) (List.drop 1 D) = D.drop 1 := List.take_of_length_le (by simp; omega)
  have e3 : ((⟨D.toArray⟩ : ByteArray).extract 1 10).data.toList = D.drop 1 := e.trans e2
  refine ⟨?_, e3⟩
  have : ((⟨D.toArray⟩ : ByteArray).extract 1 10).size = ((⟨D.toArray⟩ : ByteArray).extract 1 10).data.toList.length := by simp [ByteArray.size]
  rw [this, e3, List.length_drop, h]
theorem cells19 (X D : List UInt8) (h : D.length = 10) : Lib.byteCells X ++ Lib.strCells ((⟨D.toArray⟩ : ByteArray).extract 1 10) = Lib.byteCells (X ++ D.drop 1) := by
  unfold Lib.byteCells Lib.strCells
  rw [(extract19 D h).2, List.map_append]
theorem gs_bound {n t k L : Nat} (h : n * 2 ^ k ≤ t) (hn : 0 < n) (ht : t < pw L) : k < 32 * L := by
  rw [pw_eq] at ht
  have h1 : 2 ^ k ≤ n * 2 ^ k := Nat.le_mul_of_pos_left _ hn
  exact (Nat.pow_lt_pow_iff_right (by decide : 1 < 2)).1 (by omega)
set_option maxHeartbeats 1600000 in
set_option maxRecDepth 20000 in
theorem text_any (oa : Option Addr) (cap : Nat) (ds : List Nat) (w : World) (hl : ds.length ≤ 100000000000) (hc : ds.length ≤ cap) (ok : OK ds) (hcell : Cells w oa ds) (htab : Lib.TabIs Tryz.prog w p10 .u64 Lib.pow10Tab) :
    Calls Tryz.prog 76 #[.slice oa ds.length cap] w fun e w' => e = .returned (.string ⟨(Lib.decDigits (val ds)).toArray⟩) ∧ Below w.heap.size w w' := by
  have hsl := strip_length_le ds
  obtain ⟨i0, hi, hz0, hz1, hz2⟩ := info_parts info42
  have htabs := Lib.tabBelow_of_tabIs htab
  have hvs := val_strip ds
  have hstr := strip_dig (val ds)
  rw [dig_val ok] at hstr
  have okS := OK_strip ok
  have htb := val_lt ok
  generalize val ds = N at *
  go_enter Tryz.func76, Tryz.ntmps76
  go_wp2_with fail
  refine (norm_any oa cap ds w (by omega) hc ok hcell).mono ?_
  rintro e w1 ⟨rfl, hrow, hb⟩
  go_wp2_with fail
  generalize strip ds = S at *
  go_loopg [3, 4] N (fun g vg rest wr => ∃ (gs : List Nat) (m : Nat) (xs : List Nat), rest = .slice (some ⟨w.heap.size, 0, none⟩) m S.length ∧ m ≤ S.length ∧ xs.length = S.length ∧ Row wr w.heap.size xs ∧ val (seg xs 0 m) = g ∧ strip (seg xs 0 m) = seg xs 0 m ∧
    N = gval gs + 1000000000 ^ gs.length * g ∧ (∀ x, x ∈ gs → x < 1000000000) ∧ g * 2 ^ gs.length ≤ N ∧ gs.length ≤ 32 * ds.length ∧ wr.ownsRow (w.heap.size + 1) 54 1 vg gs.length (gcells gs) ∧ Below w.heap.size w wr ∧ (g = 0 → gs = [] ∨ gs[gs.length - 1]?.getD 0 ≠ 0))
  case atStart => exact ⟨[], S.length, S, rfl, Nat.le_refl _, rfl, hrow, by rw [seg_all]; exact hvs, by rw [seg_all]; exact hstr, by simp [gval], fun _ h => (List.not_mem_nil h).elim, Nat.le_of_eq (Nat.mul_one N), Nat.zero_le _, World.ownsRow_nil _ _ _ _, hb, fun _ => .inl rfl⟩
  case round =>
    obtain ⟨gs, m, xs, rfl, hm, hxl, hr, hg, hst, hN, hgs, hbd, hgl, hown, hbel, h0⟩ := hrel
    have Hg := hide hg
    have Hst := hide hst
    have HN := hide hN
    have Hxl := hide hxl
    clear hg hst hN
    by_cases hm0 : 0 < m
    · go_wp2_with fail
      refine (takeGroup_any w.heap.size m S.length xs wr (by omega) hm hr (by omega) (by omega)).mono ?_
      rintro e w2 ⟨r, ys, rfl, hrb, hr2, hon, hyl, heq⟩
      have hown2 := own_only hown hon (Nat.lt_succ_self _)
      have hsz2 : w.heap.size + 1 ≤ w2.heap.size := hr2.lt
      go_wp2_with (at_builtin; refine wpList_append_own _ rfl _ _ 108 rfl (w.heap.size + 1) 54 i0 (.int .u64 0) 1 8 Tryz.underlying108 hi hz0 hz1 hz2 rfl (by decide) _ _ _ rfl (hown2.alloc _) ⟨w2.heap.size, 0, none⟩ 1 1 [.int .u64 (r : Int)] rfl rfl ?c1 ?c2 ?c3 ?c4 ?c5 ?_)
      case c1 =>
        intro j u hj
        match j, hj with
        | 0, hj => simp at hj; subst hj; simp [Addr.add]
      case c2 => intro u hu; simp at hu; subst hu; rfl
      case c3 => unfold maxLen; omega
      case c4 => omega
      case c5 => simp; omega
      intro v' w3 hown3 hgrow hnn
      have hgp : 0 < gk := by
        have h1 := Hg.out
        rcases Nat.eq_zero_or_pos gk with h | h
        · rw [h] at h1
          have h2 := val_eq_zero h1
          rw [Hst.out] at h2
          have h3 := congrArg List.length h2
          rw [seg_length (by omega)] at h3
          simp at h3; omega
        · exact h
      have hgb := gs_bound hbd hgp htb
      have hr3 : Row w3 w.heap.size ys := by
        refine ⟨?_, hr2.2⟩
        rw [hgrow.block w.heap.size (by have := hr2.lt; simp; omega) (fun e => by have := (hown2.lt _ e.symm).1; omega)]
        exact (hr2.alloc _).1
      have hbel3 : Below w.heap.size w w3 := ((hbel.trans (hon.below (Nat.le_refl _))).alloc (by omega) _).grown hgrow (by simp; omega) (fun k hk => by have := (hown2.lt k hk).1; omega)
      have hlen : (seg ys 0 m).length = m := seg_length (by omega)
      have hcl : Cells w3 (some ⟨w.heap.size, 0, none⟩) (seg ys 0 m) := Cells.of_row hr3 (by omega)
      have e1 : gval (gs ++ [r]) + 1000000000 ^ (gs ++ [r]).length * val (seg ys 0 m) = N := by
        rw [HN.out, ← Hg.out, heq, gval_append, List.length_append, List.length_singleton, Nat.pow_succ, Nat.mul_add, Nat.mul_assoc, Nat.mul_comm (val (seg ys 0 m)) 1000000000]
        simp only [gval, Nat.mul_zero, Nat.add_zero]
        omega
      have e2 : val (seg ys 0 m) * 2 ^ (gs ++ [r]).length ≤ N := by
        have h1 := Hg.out
        rw [List.length_append, List.length_singleton, Nat.pow_succ, Nat.mul_comm (2 ^ gs.length) 2, ← Nat.mul_assoc]
        refine Nat.le_trans (Nat.mul_le_mul_right _ ?_) hbd
        omega
      have e3 : val (seg ys 0 m) < gk := by have h1 := Hg.out; omega
      have e4 : val (seg ys 0 m) = 0 → gs ++ [r] = [] ∨ (gs ++ [r])[(gs ++ [r]).length - 1]?.getD 0 ≠ 0 := fun h => by
        refine .inr ?_
        have h1 := Hg.out
        simp
        omega
      have E1 := hide e1
      have E2 := hide e2
      have E3 := hide e3
      have E4 := hide e4
      clear e1 e2 e3 e4 heq hown hown2 hgrow hr hr2 hon hnn
      go_wp2_with fail
      refine (trim_n _ m S.length (seg ys 0 m) w3 hlen (by omega) hm hcl).mono ?_
      rintro e w' ⟨rfl, rfl⟩
      have hsl2 := strip_length_le (seg ys 0 m)
      rw [hlen] at hsl2
      go_wp2
      go_roundg (val (seg ys 0 m))
      case measure => exact E3.out
      case rel =>
        refine ⟨gs ++ [r], (strip (seg ys 0 m)).length, ys, rfl, by omega, hyl.trans Hxl.out, hr3, ?_, ?_, E1.out.symm, ?_, E2.out, by simp; omega, ?_, hbel3, E4.out⟩
        · rw [← seg_strip, val_strip]
        · rw [← seg_strip, strip_strip]
        · intro x hx
          rcases List.mem_append.1 hx with hx | hx
          · exact hgs x hx
          · simp at hx; omega
        · simpa [gcells] using hown3
    · obtain rfl : m = 0 := by omega
      have hg0 : gk = 0 := by have := Hg.out; simpa [seg, val] using this.symm
      have hN0 : N = gval gs := by have := HN.out; rw [hg0] at this; simpa using this
      by_cases hgs0 : gs = []
      · subst hgs0
        have hu3 : ∃ oa c, u3 = .slice oa 0 c := by
          rcases hown.2 with ⟨h, _⟩ | ⟨g, cap', _, h, _⟩
          · exact ⟨none, 0, h⟩
          · exact ⟨_, cap', h⟩
        obtain ⟨og, cg, hu⟩ := hu3
        subst hu
        have hz : N = 0 := hN0
        have hd : Lib.decDigits N = [48] := by rw [hz]; exact Lib.decDigits_one (by decide)
        have HD := hide hd
        clear hd hz hN0
        go_wp2
        go_ret
        exact ⟨congrArg (fun l : List UInt8 => Ending.returned (.string ⟨l.toArray⟩)) HD.out.symm, hbel⟩
      · have hgl0 : 0 < gs.length := List.length_pos_iff.2 hgs0
        obtain ⟨t, ht⟩ : ∃ t, gs.length = t + 1 := ⟨gs.length - 1, by omega⟩
        obtain ⟨g, cg, hu, hgB, hcell'⟩ : ∃ g cg, u3 = .slice (some ⟨g, 0, none⟩) (t + 1) cg ∧ w.heap.size + 1 ≤ g ∧ ∀ i, i < t + 1 → wr.cell? ⟨g, i, none⟩ = some (.int .u64 (gs[i]?.getD 0 : Nat)) := by
          rcases hown.2 with ⟨_, h⟩ | ⟨g, cap', cur, h, hB, hh, _, _, _, ht'⟩
          · omega
          · refine ⟨g, cap', by rw [h, ht], hB, fun i hi => ?_⟩
            have e : cur[i]? = some (.int .u64 (gs[i]?.getD 0 : Nat)) := by
              rw [← Array.getElem?_toList, ← List.getElem?_take_of_lt (show i < gs.length * 1 by omega), ht']
              simp [gcells, show i < gs.length by omega]
            simp [World.cell?, hh, e]
        subst hu
        have hglt : t < 32 * ds.length := by omega
        have hget : ∀ i, i < t + 1 → gs[i]?.getD 0 < 1000000000 := fun i hi => by
          rw [List.getElem?_eq_getElem (by omega : i < gs.length)]
          exact hgs _ (List.getElem_mem (by omega))
        have gt := hcell' t (by omega)
        obtain ⟨x, Hx⟩ : ∃ x, Hid (gs[t]?.getD 0 = x) := ⟨_, rfl⟩
        rw [Hx.out] at gt
        have hxb : x < 1000000000 := by have := hget t (by omega); rw [Hx.out] at this; exact this
        have hmkT := fun W => mkb_run ((((t : Int) + 1)) * 9) (9 * (t + 1)) (by omega) (by omega) W
        have hw9 : IntKind.i64.wrap (((t : Int) + 1) * 9) = ((t : Int) + 1) * 9 := by rw [IntKind.wrap_i64]; omega
        have HT := hide ht
        have hgw : g < wr.heap.size := by
          rcases Nat.lt_or_ge g wr.heap.size with h | h
          · exact h
          · simp [World.cell?, Array.getElem?_eq_none h] at gt
        have hownT : (wr.alloc (.cells (zb (9 * (t + 1))) 5)).drew.ownsRow wr.heap.size 5 1 (.slice (some ⟨wr.heap.size, 0, none⟩) 0 (9 * (t + 1))) 0 [] := World.ownsRow_made wr _ _ (Nat.le_refl _) (by unfold maxLen; omega) (by simp [zb, size_madeCells])
        have hbT : Below wr.heap.size wr (wr.alloc (.cells (zb (9 * (t + 1))) 5)).drew := ((Below.refl _ _).alloc (Nat.le_refl _) _).drew
        have hszT : wr.heap.size ≤ (wr.alloc (.cells (zb (9 * (t + 1))) 5)).drew.heap.size := by simp
        have gtT := (hbT.cell (p := ⟨g, t, none⟩) hgw).trans gt
        have htabT := htabs _ (hbel.trans (hbT.mono hbel.size))
        have HF : Hid (gval gs = N) := by have := HN.out; rw [hg0] at this; show gval gs = N; omega
        have hne0 : gs[gs.length - 1]?.getD 0 ≠ 0 := (h0 hg0).resolve_left hgs0
        have HZ := hide hne0
        clear hne0
        have hd10 : (Lib.decDigits x).length ≤ 9 := decDigits_length_le 9 x (by decide) (by simpa using hxb)
        have htop : Hid (Lib.decDigits x = Lib.decDigits (gval (gs.drop t))) := by
          have h1 := HT.out
          rw [gval_drop (by omega), List.drop_eq_nil_of_le (by omega), Hx.out]
          simp [gval, Hid]
        obtain ⟨i1, hi', hy0, hy1, hy2⟩ := info_parts info5
        obtain ⟨B, HB⟩ : ∃ B, Hid (wr.heap.size = B) := ⟨_, rfl⟩
        obtain ⟨W0, HW0⟩ : ∃ W0, Hid (W0 = wr) := ⟨_, rfl⟩
        clear ht hgl hown hgs hN0 h0
        have HCC := hide hcell'
        clear hcell'
        go_wp2_with fail
        go_region_with (go_at_call 98; refine (publicAppendUint_any wr.heap.size 0 x (by omega) _ [] _ hownT hszT (by omega) htabT).mono ?_; rintro e w' ⟨v', rfl, hown', hb'⟩)
        all_goals
          have hgB' : g < B := by rw [← HB.out]; exact hgw
          have HCC' : ∀ i, i < t + 1 → W0.cell? ⟨g, i, none⟩ = some (.int .u64 (gs[i]?.getD 0 : Nat)) := by rw [HW0.out]; exact HCC.out
          have hbW : Below w.heap.size w W0 := by rw [HW0.out]; exact hbel
          have hBs : w.heap.size ≤ B := by rw [← HB.out]; exact hbel.size
          have HCC' := hide HCC'
          go_wp2_with fail
          go_loopw [6, 7] (fun vt i wx => ∃ k : Nat, k ≤ t ∧ i = .int .i64 ((k : Int) - 1) ∧ wx.ownsRow B 5 1 vt (Lib.decDigits (gval (gs.drop k))).length (Lib.byteCells (Lib.decDigits (gval (gs.drop k)))) ∧
            (Lib.decDigits (gval (gs.drop k))).length ≤ 9 * (t + 1 - k) ∧ Below B W0 wx) (fun _ i _ => (intOf i + 1).toNat)
          case atStart =>
            refine ⟨t, Nat.le_refl _, rfl, ?_, ?_, by rw [← HB.out, HW0.out]; exact hbT.trans hb'⟩
            · rw [← htop.out, ← HB.out]; simpa using hown'
            · rw [← htop.out]; omega
          case round =>
            obtain ⟨k, hk, rfl, hownx, hlx, hbx⟩ := hrel
            by_cases hk0 : 0 < k
            · obtain ⟨j, rfl⟩ : ∃ j, k = j + 1 := ⟨k - 1, by omega⟩
              have gj := (hbx.cell (p := ⟨g, j, none⟩) hgB').trans (HCC'.out j (by omega))
              obtain ⟨y, Hy⟩ : ∃ y, Hid (gs[j]?.getD 0 = y) := ⟨_, rfl⟩
              rw [Hy.out] at gj
              have hyb : y < 1000000000 := by have := hget j (by omega); rw [Hy.out] at this; exact this
              have bj : j < t + 1 := by omega
              rw [show ((j + 1 : Nat) : Int) - 1 = (j : Int) from by omega]
              have ec : (1000000000 : Int) + (y : Int) = ((1000000000 + y : Nat) : Int) := by omega
              have EC := hide ec
              clear ec
              have hl10 := group_length y hyb
              have hstep : Hid (Lib.decDigits (gval (gs.drop j)) = Lib.decDigits (gval (gs.drop (j + 1))) ++ (Lib.decDigits (1000000000 + y)).drop 1) := by
                have h1 := HT.out
                rw [gval_drop (by omega : j < gs.length), Hy.out]
                exact group_step y _ (gval_pos (by omega) HZ.out) hyb
              generalize hD : Lib.decDigits (1000000000 + y) = D at *
              have HDD := hide hD
              clear hD
              go_wp2_with fail
              rw [EC.out]
              refine (publicFormatUint_any (1000000000 + y) (by omega) (by omega) _ (htabs _ (hbW.trans (hbx.mono hBs)))).mono ?_
              rintro e wy ⟨rfl, hby⟩
              rw [HDD.out]
              have hsD : (⟨D.toArray⟩ : ByteArray).size = 10 := by simpa [ByteArray.size] using hl10
              have hown2 := own_below hownx hby
              obtain ⟨hs9, he9⟩ := extract19 D hl10
              have HL1 : (Lib.decDigits (gval (gs.drop (j + 1)))).length + ((⟨D.toArray⟩ : ByteArray).extract 1 10).size ≤ maxLen := by rw [hs9]; unfold maxLen; omega
              have HL2 : (Lib.decDigits (gval (gs.drop (j + 1)))).length + ((⟨D.toArray⟩ : ByteArray).extract 1 10).size ≤ 140737488355328 := by rw [hs9]; omega
              have HL0 : B ≤ wr.heap.size := by
                have h1 := hbx.size
                rw [HW0.out, HB.out] at h1
                exact h1
              have HL3 : B ≤ wy.heap.size := Nat.le_trans HL0 hby.size
              have hcells : Lib.byteCells (Lib.decDigits (gval (gs.drop (j + 1)))) ++ Lib.strCells ((⟨D.toArray⟩ : ByteArray).extract 1 10) = Lib.byteCells (Lib.decDigits (gval (gs.drop j))) := by
                rw [hstep.out]; exact cells19 _ D hl10
              have hlen9 : (Lib.decDigits (gval (gs.drop (j + 1)))).length + 9 = (Lib.decDigits (gval (gs.drop j))).length := by
                rw [hstep.out, List.length_append, List.length_drop, hl10]
              have HC := hide hcells
              have HLN := hide hlen9
              clear hs9 he9 hcells hlen9
              go_wp2_with (at_builtin; refine Lib.wpList_append_own_string _ rfl _ _ 110 9 rfl B 5 i1 Tryz.underlying110 Tryz.underlying9 hi' hy0 hy1 hy2 _ _ _ rfl hown2 _ rfl HL1 HL2 HL3 ?_)
              intro v4 w4 hown4 hgrow4 hnn4
              rw [HC.out, HLN.out] at hown4
              have hb4 := (hbx.trans (hby.mono HL0)).grown hgrow4 HL3 (fun k hk => (hown2.lt k hk).1)
              clear hgrow4 hnn4 hown2 hownx
              go_wp2
              go_roundw
              case rel => exact ⟨j, by omega, rfl, hown4, by have := HLN.out; omega, hb4⟩
              case measure => simp [intOf]
            · obtain rfl : k = 0 := by omega
              simp only [List.drop_zero, HF.out] at hownx
              have hpos : 0 < (Lib.decDigits N).length := by rw [Lib.decDigits_length]; exact Lib.nDigits_pos N
              obtain ⟨gb, cb, hu6⟩ : ∃ gb cb, u6 = .slice (some ⟨gb, 0, none⟩) (Lib.decDigits N).length cb := by
                rcases hownx.2 with ⟨_, hz⟩ | ⟨gb, cb, _, h, _⟩
                · omega
                · exact ⟨gb, cb, h⟩
              subst hu6
              have hcv := run_convert_bytes_back (P := Tryz.prog) wr 110 9 5 ⟨gb, 0, none⟩ cb (Lib.decDigits N) Tryz.underlying110 Tryz.underlying5 Tryz.underlying9 (fun j hj => by
                have h1 := hownx.cellAt j (by omega)
                rw [Lib.add_plain, Nat.zero_add, h1]
                simp [Lib.byteCells, hj])
              go_wp2
              go_ret
              exact ⟨rfl, hbW.trans (hbx.mono hBs)⟩
end Go.Proofs.YtlomgfgedkkhkaaGreatDoor

