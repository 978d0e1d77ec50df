/- nat.divide: the quotient's digits into one row, the rest left in the other. -/
import Derived.Test.YtlomgfgedkkhkaaGreatDoorD4
import Derived.Lib.BitFns
import Derived.Lib.ItoaNum
import Derived.Deep.LoopGhost
namespace Go.Proofs.YtlomgfgedkkhkaaGreatDoor
open Go.RowKit Dig

/-- Nothing but blocks b and c may have turned. -/
structure Only2 (b c : Nat) (w w' : World) : Prop where
  os : w'.os = w.os
  tape : w'.tape = w.tape
  output : w'.output = w.output
  size : w'.heap.size = w.heap.size
  block : ∀ k, k ≠ b → k ≠ c → w'.heap[k]? = w.heap[k]?
theorem Only2.refl (b c : Nat) (w : World) : Only2 b c w w := ⟨rfl, rfl, rfl, rfl, fun _ _ _ => rfl⟩
theorem Only2.left {b c : Nat} {u v w : World} (h : Only2 b c u v) (k : Only b v w) : Only2 b c u w :=
  ⟨k.os.trans h.os, k.tape.trans h.tape, k.output.trans h.output, k.size.trans h.size, fun i hb hc => (k.block i hb).trans (h.block i hb hc)⟩
theorem Only2.right {b c : Nat} {u v w : World} (h : Only2 b c u v) (k : Only c v w) : Only2 b c u w :=
  ⟨k.os.trans h.os, k.tape.trans h.tape, k.output.trans h.output, k.size.trans h.size, fun i hb hc => (k.block i hc).trans (h.block i hb hc)⟩
theorem Only2.below {b c B : Nat} {u w : World} (h : Only2 b c u w) (hb : B ≤ b) (hc : B ≤ c) : Below B u w :=
  ⟨h.os, h.tape, h.output, by rw [h.size]; exact Nat.le_refl _, fun k hk => h.block k (by omega) (by omega)⟩
theorem Cells.only2 {w w' : World} {b c : Nat} {oa : Option Addr} {ds : List Nat} (h : Cells w oa ds) (ho : Only2 b c w w') (hb : Off b oa) (hc : Off c oa) : Cells w' oa ds := by
  by_cases hne : ds = []
  · exact .inl hne
  · obtain ⟨d, off, e, hcell⟩ := h.resolve_left hne
    refine .inr ⟨d, off, e, fun i hi => ?_⟩
    rw [← hcell i hi]
    exact World.cell?_of_block (w := w) (ho.block d (hb _ e) (hc _ e))
theorem seg_cons {xs : List Nat} {j n : Nat} (hn : 0 < n) (h : j + n ≤ xs.length) : val (seg xs j n) = xs[j]?.getD 0 + 4294967296 * val (seg xs (j + 1) (n - 1)) := by
  rw [seg_split (k := 1) hn h, seg_succ (off := j) (i := 0) (by omega), seg_zero]
  simp [pw]
theorem seg_lt {xs : List Nat} (ok : OK xs) (off n : Nat) (h : off + n ≤ xs.length) : val (seg xs off n) < pw n := by
  have := val_lt (seg_ok ok off n)
  rwa [seg_length h] at this
/-- The window holds all that is left above its foot, and is less than the divisor a digit up. -/
theorem div_window {yu : List Nat} {V j n nu : Nat} (ok : OK yu) (hV : V < pw n) (hnu : nu ≤ yu.length) (hj : j + n + 1 ≤ nu) (hlt : val (seg yu (j + 1) (nu - (j + 1))) < V) :
    val (seg yu j (n + 1)) < V * 4294967296 ∧ val (seg yu (j + (n + 1)) (nu - j - (n + 1))) = 0 := by
  have h1 := seg_split (xs := yu) (off := j + 1) (k := n) (n := nu - (j + 1)) (by omega) (by omega)
  have h2 := seg_cons (xs := yu) (j := j) (n := n + 1) (by omega) (by omega)
  have e : j + 1 + n = j + (n + 1) := by omega
  have e2 : nu - (j + 1) - n = nu - j - (n + 1) := by omega
  rw [e, e2] at h1
  rw [Nat.add_sub_cancel] at h2
  have h3 := ok.get j
  refine ⟨by omega, ?_⟩
  rcases Nat.eq_zero_or_pos (val (seg yu (j + (n + 1)) (nu - j - (n + 1)))) with h | h
  · exact h
  · have := Nat.le_mul_of_pos_right (pw n) h
    omega
/-- A digit more of the quotient. -/
theorem div_step {yu zs yq : List Nat} {V U j n nu m g : Nat} (ok : OK yu) (hV : V < pw n) (hnu : nu ≤ yu.length) (hj : j + n + 1 ≤ nu) (hl : zs.length = yu.length)
    (hlt : val (seg yu (j + 1) (nu - (j + 1))) < V) (hm : j < m) (hmq : m ≤ yq.length)
    (hout : ∀ i, i < j ∨ j + (n + 1) ≤ i → zs[i]?.getD 0 = yu[i]?.getD 0) (heq : val (seg zs j (n + 1)) + g * V = val (seg yu j (n + 1))) (hlt' : val (seg zs j (n + 1)) < V)
    (hU : U = val (seg yu 0 nu) + V * (pw (j + 1) * val (seg yq (j + 1) (m - (j + 1))))) :
    U = val (seg zs 0 nu) + V * (pw j * val (seg (yq.set j g) j (m - j))) ∧ val (seg zs j (nu - j)) < V := by
  have hz := (div_window ok hV hnu hj hlt).2
  have z1 := seg_split (xs := zs) (off := j) (k := n + 1) (n := nu - j) (by omega) (by omega)
  have y1 := seg_split (xs := yu) (off := j) (k := n + 1) (n := nu - j) (by omega) (by omega)
  have ez : seg zs (j + (n + 1)) (nu - j - (n + 1)) = seg yu (j + (n + 1)) (nu - j - (n + 1)) := seg_congr hl (fun i h1 _ => hout i (.inr h1))
  rw [ez, hz, Nat.mul_zero, Nat.add_zero] at z1
  rw [hz, Nat.mul_zero, Nat.add_zero] at y1
  have z0 := seg_split (xs := zs) (off := 0) (k := j) (n := nu) (by omega) (by omega)
  have y0 := seg_split (xs := yu) (off := 0) (k := j) (n := nu) (by omega) (by omega)
  have el : seg zs 0 j = seg yu 0 j := seg_congr hl (fun i _ h2 => hout i (.inl (by omega)))
  rw [Nat.zero_add] at z0 y0
  rw [el] at z0
  have q1 := seg_cons (xs := yq.set j g) (j := j) (n := m - j) (by omega) (by simp; omega)
  rw [getD_set_same (by omega)] at q1
  have eq1 : seg (yq.set j g) (j + 1) (m - j - 1) = seg yq (j + 1) (m - (j + 1)) := by
    rw [show m - j - 1 = m - (j + 1) from by omega]
    exact seg_congr (by simp) (fun i h1 _ => getD_set_other (by omega))
  rw [eq1] at q1
  refine ⟨?_, by omega⟩
  rw [hU, y0, z0, y1, z1, q1, ← heq]
  simp only [pw]
  generalize val (seg yq (j + 1) (m - (j + 1))) = Q
  rw [Nat.mul_add, Nat.mul_add, Nat.mul_add V]
  have e1 : pw j * (g * V) = V * (pw j * g) := by rw [Nat.mul_comm g V, Nat.mul_left_comm]
  have e2 : 4294967296 * pw j * Q = pw j * (4294967296 * Q) := by rw [Nat.mul_comm 4294967296, Nat.mul_assoc]
  rw [e1, e2]
  omega
/-- Where nothing is owed the guess is the quotient. -/
theorem owed_none {W V g r : Nat} (hV : 0 < V) (h : r + g * V = W) (hg : W / V ≤ g) : W / V = g ∧ r < V := by
  have h1 : g ≤ W / V := by rw [Nat.le_div_iff_mul_le hV]; omega
  have h2 : W / V = g := Nat.le_antisymm hg h1
  refine ⟨h2, ?_⟩
  have := Nat.div_add_mod W V
  rw [h2, Nat.mul_comm] at this
  have := Nat.mod_lt W hV
  omega
/-- Where a whole round is owed the guess is too great. -/
theorem owed_one {W V g r P : Nat} (hV : 0 < V) (hr : r < P) (h : r + g * V = W + P) : W / V < g := by
  rw [Nat.div_lt_iff_lt_mul hV]; omega
theorem shift_facts {t : Nat} (h0 : t ≠ 0) (h : t < 4294967296) : ∃ s : Nat, (32 : Int) - (Lib.bitLen t : Int) = (s : Int) ∧ s < 32 ∧ (t + 1) * 2 ^ s ≤ 4294967296 ∧ 2147483648 ≤ t * 2 ^ s := by
  have hb := Lib.bitLenAux_bounds 64 t (by omega) h0
  have hL : Lib.bitLen t = Lib.bitLenAux 64 t := rfl
  rw [← hL] at hb
  obtain ⟨h1, h2, h3⟩ := hb
  generalize Lib.bitLen t = L at *
  have hL32 : L ≤ 32 := by
    have : 2 ^ (L - 1) < 2 ^ 32 := by omega
    have := (Nat.pow_lt_pow_iff_right (by decide : 1 < 2)).1 this
    omega
  refine ⟨32 - L, by omega, by omega, ?_, ?_⟩
  · have := Nat.mul_le_mul_right (2 ^ (32 - L)) h3
    rw [← Nat.pow_add, show L + (32 - L) = 32 from by omega] at this
    exact this
  · have := Nat.mul_le_mul_right (2 ^ (32 - L)) h2
    rw [← Nat.pow_add, show L - 1 + (32 - L) = 31 from by omega] at this
    exact this
theorem guess_mul_lt {g V n : Nat} (hg : g < 4294967296) (hV : V < pw n) : g * V < pw (n + 1) := by
  simp only [pw]
  have h1 : g * V ≤ 4294967295 * V := Nat.mul_le_mul_right _ (by omega)
  have h2 : 4294967295 * V ≤ 4294967295 * pw n := Nat.mul_le_mul_left _ (by omega)
  have := pw_pos n
  omega
theorem owed_le {r x W P c : Nat} (hr : r < P) (hx : x < P) (h : r + x = W + P * c) : c ≤ 1 := by
  rcases Nat.lt_or_ge 1 c with hc | hc
  · have := Nat.mul_le_mul_left P hc
    omega
  · exact hc
theorem takeTimes_n (b off n cap nv : Nat) (us vs : List Nat) (ov : Option Addr) (cv d : Nat) (w : World) (e : vs.length = nv) (hvc : nv ≤ cv) (hn : n ≤ 1099511627776) (hnc : n ≤ cap) (hrow : Row w b us) (hul : off + n ≤ us.length) (hus : us.length ≤ 4398046511104)
    (hvl : nv ≤ n) (okv : OK vs) (hv : Cells w ov vs) (hoff : Off b ov) (hd : d < 4294967296) :
    Calls Tryz.prog 92 #[.slice (some ⟨b, off, none⟩) n cap, .slice ov nv cv, .int .u32 (d : Int)] w fun e w' =>
      ∃ c us', e = .returned (.int .u64 ((c : Nat) : Int)) ∧ c ≤ 4294967296 ∧ Row w' b us' ∧ Only b w w' ∧ us'.length = us.length ∧ (∀ j, j < off ∨ off + n ≤ j → us'[j]?.getD 0 = us[j]?.getD 0) ∧
        val (seg us' off n) + d * val vs = val (seg us off n) + pw n * c := by
  subst e; exact takeTimes_any b off n cap us vs ov cv d w hn hnc hrow hul hus hvc hvl okv hv (fun _ => hoff) hd
theorem addTimes_n (b off n cap nv : Nat) (us vs : List Nat) (ov : Option Addr) (cv d : Nat) (w : World) (e : vs.length = nv) (hvc : nv ≤ cv) (hn : n ≤ 1099511627776) (hnc : n ≤ cap) (hrow : Row w b us) (hul : off + n ≤ us.length) (hus : us.length ≤ 4398046511104)
    (hvl : nv ≤ n) (okv : OK vs) (hv : Cells w ov vs) (hoff : Off b ov) (hd : d < 4294967296) :
    Calls Tryz.prog 90 #[.slice (some ⟨b, off, none⟩) n cap, .slice ov nv cv, .int .u32 (d : Int)] w fun e w' =>
      ∃ c us', e = .returned (.int .u64 ((c : Nat) : Int)) ∧ Row w' b us' ∧ Only b w w' ∧ us'.length = us.length ∧ (∀ j, j < off ∨ off + n ≤ j → us'[j]?.getD 0 = us[j]?.getD 0) ∧
        val (seg us' off n) + pw n * c = val (seg us off n) + d * val vs := by
  subst e; exact addTimes_any b off n cap us vs ov cv d w hn hnc hrow hul hus hvc hvl okv hv (fun _ => hoff) hd
set_option maxHeartbeats 800000 in
set_option maxRecDepth 20000 in
theorem divide_any (bq nq cq bu nu cu n cv : Nat) (qs us vs : List Nat) (ov : Option Addr) (w : World) (hn : vs.length = n) (hn0 : 0 < n) (hcv : Cells w ov vs) (okv : OK vs) (htop : vs[n - 1]?.getD 0 ≠ 0)
    (hvq : Off bq ov) (hvu : Off bu ov) (hqu : bq ≠ bu) (hrq : Row w bq qs) (hru : Row w bu us) (hq : nq ≤ qs.length) (_hqc : nq ≤ cq) (hu : nu ≤ us.length) (huc : nu ≤ cu) (hql : qs.length ≤ 10000000000) (hul : us.length ≤ 10000000000) (hnl : n ≤ 10000000000)
    (_hvc : n ≤ cv) (ht : (strip (us.take nu)).length < nu) (hm : (strip (us.take nu)).length + 1 ≤ nq + n) :
    Calls Tryz.prog 94 #[.slice (some ⟨bq, 0, none⟩) nq cq, .slice (some ⟨bu, 0, none⟩) nu cu, .slice ov n cv] w fun e w' => ∃ qs' us' : List Nat, e = .returned (.tuple #[]) ∧ Row w' bq qs' ∧ Row w' bu us' ∧ Only2 bq bu w w' ∧ qs'.length = qs.length ∧ us'.length = us.length ∧
      (∀ i, nu ≤ i → us'[i]?.getD 0 = us[i]?.getD 0) ∧ (∀ i, (strip (us.take nu)).length + 1 - n ≤ i → qs'[i]?.getD 0 = qs[i]?.getD 0) ∧
      val (seg us 0 nu) = val (seg us' 0 nu) + val vs * val (seg qs' 0 ((strip (us.take nu)).length + 1 - n)) ∧ val (seg us' 0 nu) < val vs := by
  obtain ⟨bv, offv, t, hov, gv, Hv⟩ := hcv.get (i := n - 1) (by omega)
  have htb : t < 4294967296 := by have := okv.get (n - 1); rw [Hv.out] at this; exact this
  rw [Hv.out] at htop
  obtain ⟨s, hs, hs32, hs1, hs2⟩ := shift_facts htop htb
  have hc0 : Cells w (some ⟨bu, 0, none⟩) (us.take nu) := by
    have := Cells.of_row (n := nu) hru (off := 0) (by omega)
    simpa using this
  have htl : (us.take nu).length = nu := by simp; omega
  subst hov
  obtain ⟨L, HL⟩ : ∃ L, Hid ((strip (us.take nu)).length = L) := ⟨_, hide rfl⟩
  rw [HL.out] at ht hm ⊢
  have HS := hide hs
  clear hs
  go_enter Tryz.func94, Tryz.ntmps94
  go_step3
  go_wp2_with fail
  refine (Tryz.bits_LeadingZeros32 (t : Int) w (by omega) (by omega)).mono ?_
  rintro e w1 ⟨rfl, hw⟩
  rw [Int.toNat_natCast, HS.out, hw]
  clear hw w1
  go_wp2_with fail
  go_step3
  go_wp2_with fail
  refine (trim_n (some ⟨bu, 0, none⟩) nu cu (us.take nu) w htl (by omega) huc hc0).mono ?_
  rintro e w' ⟨rfl, rfl⟩
  have hV0 : 0 < val vs ∧ pw (n - 1) ≤ val vs := by
    have h1 := val_split vs (n - 1) (by omega)
    rw [drop_succ_val (by omega : n - 1 < vs.length), Hv.out] at h1
    have h2 : pw (n - 1) ≤ pw (n - 1) * t := Nat.le_mul_of_pos_right _ (by omega)
    have h3 := pw_pos (n - 1)
    rw [Nat.mul_add] at h1
    omega
  have hstart : val (seg us (L + 1 - n) (nu - (L + 1 - n))) < pw (n - 1) := by
    have h0 : val (seg us 0 nu) = val (strip (us.take nu)) := by rw [val_strip]; rfl
    have h1 := val_lt (OK_strip (hru.2.take nu))
    rw [← h0, HL.out] at h1
    have h2 := seg_split (xs := us) (off := 0) (k := L + 1 - n) (n := nu) (by omega) (by omega)
    rw [Nat.zero_add] at h2
    have h3 : val (seg us 0 nu) < pw (L + 1 - n) * pw (n - 1) := by
      rw [← pw_add]
      exact Nat.lt_of_lt_of_le h1 (pw_mono (by omega))
    have h4 : pw (L + 1 - n) * val (seg us (L + 1 - n) (nu - (L + 1 - n))) < pw (L + 1 - n) * pw (n - 1) := by omega
    exact Nat.lt_of_mul_lt_mul_left h4
  obtain ⟨hV0, hV1⟩ := hV0
  rw [HL.out]
  have HST := hide (Nat.lt_of_lt_of_le hstart hV1)
  clear hstart hV1
  go_wp2_with fail
  go_loopg [7] (L + 1 - n) (fun k s7 wr => ∃ (z : Int) (yq yu : List Nat), s7 = .int .i64 z ∧ z < k ∧ (0 < k → z = (k : Int) - 1) ∧ -10000000000 ≤ z ∧ k ≤ L + 1 - n ∧ Row wr bq yq ∧ Row wr bu yu ∧ Only2 bq bu w wr ∧ yq.length = qs.length ∧ yu.length = us.length ∧
      Hid ((∀ i, nu ≤ i → yu[i]?.getD 0 = us[i]?.getD 0) ∧ (∀ i, L + 1 - n ≤ i → yq[i]?.getD 0 = qs[i]?.getD 0) ∧
        val (seg us 0 nu) = val (seg yu 0 nu) + val vs * (pw k * val (seg yq k (L + 1 - n - k))) ∧ val (seg yu k (nu - k)) < val vs))
  case atStart => exact ⟨(L : Int) - n, qs, us, rfl, by omega, fun h => by omega, by omega, Nat.le_refl _, hrq, hru, Only2.refl _ _ _, rfl, rfl, hide ⟨fun _ _ => rfl, fun _ _ => rfl, by rw [Nat.sub_self, show seg qs (L + 1 - n) 0 = [] from by simp [seg]]; simp [val], HST.out⟩⟩
  case round =>
    obtain ⟨z, yq, yu, rfl, hz1, hz2, hz3, hk, rq, ru, ho, lq, lu, HI⟩ := hrel
    cases gk with
    | zero =>
      go_wp2_with fail
      rw [Exit.noGoto_normal]
      first | go_end0 | refine bodyPost_ret (results_none rfl _ _ _) rfl ?_
      have hG := HI.out
      simp only [pw, Nat.one_mul, Nat.sub_zero] at hG
      exact ⟨yq, yu, rfl, rq, ru, ho, lq, lu, hG.1, hG.2.1, hG.2.2.1, hG.2.2.2⟩
    | succ j =>
      obtain rfl : z = (j : Int) := by have := hz2 (by omega); omega
      clear hz1 hz2 hz3
      have hcw : Cells wr (some ⟨bu, j, none⟩) (seg yu j (n + 1)) := Cells.of_row ru (by omega)
      have hcv' := hcv.only2 ho hvq hvu
      have hVn : val vs < pw n := by have := val_lt okv; rwa [hn] at this
      have hg := guessDigit_any (some ⟨bu, j, none⟩) (some ⟨bv, offv, none⟩) n (cu - j) cv (seg yu j (n + 1)) vs s wr (seg_length (by omega)) hn hn0 hnl (seg_ok ru.2 _ _) okv hcw hcv' hs32 (by rw [Hv.out]; exact hs1) (by rw [Hv.out]; exact hs2) (div_window ru.2 hVn (by omega) (by omega) HI.out.2.2.2).1
      go_wp2_with fail
      rw [show j + n + 1 - j = n + 1 from by omega]
      refine hg.mono ?_
      rintro e w1 ⟨g, rfl, hgl, hgb, ho1⟩
      go_wp2_with fail
      refine (takeTimes_n bu j (n + 1) (cu - j) n yu vs (some ⟨bv, offv, none⟩) cv g w1 hn _hvc (by omega) (by omega) ((ho1 bq).row ru (Ne.symm hqu)) (by omega) (by omega) (by omega) okv (hcv'.only (ho1 bu) hvu) hvu hgb).mono ?_
      rintro e w2 ⟨c, zs, rfl, hc, rz, ho2, lz, hout, heq⟩
      have hseg : ∀ xs : List Nat, OK xs → xs.length = us.length → val (seg xs j (n + 1)) < pw (n + 1) := fun xs ok hl => seg_lt ok j (n + 1) (by omega)
      have hc1 : c ≤ 1 := owed_le (hseg zs rz.2 (lz.trans lu)) (guess_mul_lt hgb hVn) heq
      have hI1 : Hid ((∀ i, i < j ∨ j + (n + 1) ≤ i → zs[i]?.getD 0 = yu[i]?.getD 0) ∧ val (seg yu j (n + 1)) / val vs ≤ g ∧ val (seg zs j (n + 1)) + g * val vs = val (seg yu j (n + 1)) + pw (n + 1) * c) := ⟨hout, hgl, heq⟩
      have rq2 : Row w2 bq yq := ho2.row ((ho1 bu).row rq hqu) hqu
      have ho' : Only2 bq bu w w2 := (ho.right (ho1 bu)).right ho2
      have lz' : zs.length = us.length := lz.trans lu
      clear hout hgl heq ho2 lz hc hg hcw
      go_wp2_with fail
      go_loopg [9, 10] g (fun k s9 s10 wx => ∃ (c : Nat) (zs : List Nat), s9 = .int .u32 (k : Int) ∧ s10 = .int .u64 (c : Int) ∧ k < 4294967296 ∧ Row wx bq yq ∧ Row wx bu zs ∧ Only2 bq bu w wx ∧ zs.length = us.length ∧ c ≤ 1 ∧
        Hid ((∀ i, i < j ∨ j + (n + 1) ≤ i → zs[i]?.getD 0 = yu[i]?.getD 0) ∧ val (seg yu j (n + 1)) / val vs ≤ k ∧ val (seg zs j (n + 1)) + k * val vs = val (seg yu j (n + 1)) + pw (n + 1) * c))
      case atStart => exact ⟨c, zs, rfl, rfl, hgb, rq2, rz, ho', lz', hc1, hI1⟩
      case round =>
        clear hc1 hI1 rq2 rz ho' lz' hgb
        obtain ⟨c, zs, rfl, rfl, hkb, rq2, rz, ho2, lz, hc1, hI⟩ := hrel
        by_cases hc : c = 0
        · subst hc
          have hcell := rq2.cell (i := j) (by omega)
          have hfree := rq2.free j
          go_wp2_with fail
          have hh := hI.out
          rw [Nat.mul_zero, Nat.add_zero] at hh
          have h2 := owed_none hV0 hh.2.2 hh.2.1
          have hG := HI.out
          rw [show L + 1 - n - (j + 1) = L + 1 - n - (j + 1) from rfl] at hG
          have hst := div_step (yq := yq) (m := L + 1 - n) ru.2 hVn (by omega) (by omega) (lz.trans lu.symm) hG.2.2.2 (by omega) (by omega) hh.1 hh.2.2 h2.2 hG.2.2.1
          go_roundg j
          case rel =>
            refine ⟨(j : Int) - 1, yq.set j gk, zs, rfl, by omega, fun _ => rfl, by omega, by omega, rq2.set j hkb, ?_, ?_, by simpa using lq, lz, hide ⟨?_, ?_, hst.1, hst.2⟩⟩
            · exact ((Only.refl bq wr).setCell j _).row rz (Ne.symm hqu)
            · exact ho2.left ((Only.refl bq wr).setCell j _)
            · intro i hi; rw [hh.1 i (by omega)]; exact hG.1 i hi
            · intro i hi; rw [getD_set_other (by omega)]; exact hG.2.1 i hi
          case measure => omega
        · obtain rfl : c = 1 := by omega
          have hh := hI.out
          have hlt1 := owed_one hV0 (hseg zs rz.2 lz) (by rw [← Nat.mul_one (pw (n + 1))]; exact hh.2.2)
          have hQ := hh.2.1
          have hk1 : 1 ≤ gk := by generalize val (seg yu j (n + 1)) / val vs = Q at *; omega
          have HH := hide (And.intro hh hlt1)
          clear hh hlt1 hQ
          have had := addTimes_n bu j (n + 1) (cu - j) n zs vs (some ⟨bv, offv, none⟩) cv 1 wr hn _hvc (by omega) (by omega) rz (by omega) (by omega) (by omega) okv (hcv.only2 ho2 hvq hvu) hvu (by decide)
          go_wp2_with fail
          refine had.mono ?_
          rintro e w3 ⟨c2, zs2, rfl, rz2, ho3, lz2, hout2, heq2⟩
          have hx : val (seg zs2 j (n + 1)) + pw (n + 1) * c2 = val (seg zs j (n + 1)) + 1 * val vs := heq2
          have hz1 := hseg zs rz.2 lz
          have hVn1 : val vs < pw (n + 1) := by have := guess_mul_lt (show 1 < 4294967296 by decide) hVn; omega
          have hc2 : c2 ≤ 1 := by
            rcases Nat.lt_or_ge 1 c2 with hc | hc
            · have := Nat.mul_le_mul_left (pw (n + 1)) hc
              omega
            · exact hc
          have hI2 : Hid ((∀ i, i < j ∨ j + (n + 1) ≤ i → zs2[i]?.getD 0 = yu[i]?.getD 0) ∧ val (seg yu j (n + 1)) / val vs ≤ gk - 1 ∧ val (seg zs2 j (n + 1)) + (gk - 1) * val vs = val (seg yu j (n + 1)) + pw (n + 1) * (1 - c2)) := by
            obtain ⟨⟨h1, h2, h3⟩, h4⟩ := HH.out
            refine ⟨fun i hi => (hout2 i hi).trans (h1 i hi), Nat.le_sub_one_of_lt h4, ?_⟩
            obtain ⟨k, rfl⟩ : ∃ k, gk = k + 1 := ⟨gk - 1, by omega⟩
            rw [Nat.add_sub_cancel]
            rw [Nat.add_mul] at h3
            rcases (show c2 = 0 ∨ c2 = 1 by omega) with rfl | rfl
            · omega
            · omega
          clear hx hz1 hVn1 heq2 hout2 had
          have rq3 := ho3.row rq2 hqu
          go_wp2_with fail
          go_roundg (gk - 1)
          case rel => exact ⟨1 - c2, zs2, by go_num, by go_num, by omega, rq3, rz2, ho2.right ho3, lz2.trans lz, by omega, hI2⟩
          case measure => omega
end Go.Proofs.YtlomgfgedkkhkaaGreatDoor

