/- The reference's Shl answers a row of its own. -/
import Derived.Test.YtlomgfgedkkhkaaGreatDoorD8ToR8
import Derived.Deep.CutBlock
import Derived.Deep.DeepCutAuto
import Derived.BigQuiet
import Derived.Deep.DeepFit
import Derived.Deep.QuietTactic
import Derived.Deep.LoopGhost
import Derived.Lib.Strings
namespace Go.Proofs.YtlomgfgedkkhkaaGreatDoor
open Go.RowKit Dig
theorem val_drop_cons {xs : List Nat} {j : Nat} (h : j < xs.length) : val (xs.drop j) = xs[j]?.getD 0 + 4294967296 * val (xs.drop (j + 1)) := by
  rw [List.drop_eq_getElem_cons h, List.getElem?_eq_getElem h]; rfl
theorem rshort_step {us ys : List Nat} {j r q r' y M : Nat} (hj : j < us.length) (hl : ys.length = us.length) (hy : us[j]?.getD 0 = y)
    (heq : val (us.drop (j + 1)) = val (ys.drop (j + 1)) * M + r) (hq : r * 4294967296 + y = q * M + r') :
    val (us.drop j) = val ((ys.set j q).drop j) * M + r' := by
  rw [val_drop_cons hj, val_drop_cons (xs := ys.set j q) (by simpa using by omega), getD_set_same (by omega), hy, heq]
  have e : (ys.set j q).drop (j + 1) = ys.drop (j + 1) := by rw [List.drop_set_of_lt (by omega)]
  rw [e, Nat.add_mul, Nat.mul_assoc, Nat.mul_add]
  omega
theorem rtrim_new_n (oa : Option Addr) (n cap : Nat) (ds : List Nat) (w : World) (e : ds.length = n) (hl : n ≤ 10000000000000) (hc : n ≤ cap) (ok : OK ds) (hcell : Cells w oa ds) :
    Calls Tryz.prog 68 #[.slice oa n cap] w fun e w' => ∃ v, e = .returned v ∧ Rd w' v (strip ds) ∧ NewAt w.heap.size v ∧ Below w.heap.size w w' := by
  subst e; exact rtrim_new oa cap ds w hl hc ok hcell
set_option maxHeartbeats 1000000 in
set_option maxRecDepth 20000 in
theorem rshort_any (oa : Option Addr) (ca M : Nat) (X : List Nat) (w : World) (hl : X.length ≤ 100000000000) (_hc : X.length ≤ ca) (ok : OK X) (hx : Cells w oa X) (hM : 0 < M) (hM2 : M < 4294967296) :
    Calls Tryz.prog 112 #[.slice oa X.length ca, .int .u32 (M : Int)] w fun e w' => ∃ v, e = .returned (.tuple #[v, .int .u32 ((val X % M : Nat) : Int)]) ∧ Rd w' v (dig (val X / M)) ∧ NewAt w.heap.size v ∧ Below w.heap.size w w' := by
  obtain ⟨q0, Hq0⟩ : ∃ r, Hid (dig (val X / M) = r) := ⟨_, rfl⟩
  obtain ⟨r0, Hr0⟩ : ∃ r, Hid (val X % M = r) := ⟨_, rfl⟩
  rw [Hq0.out, Hr0.out]
  have hmk := mk_run' (X.length : Int) X.length rfl (by omega) w
  have hr0 := Row.new w (List.replicate X.length 0) (OK.replicate _ (by decide))
  have hb0 : Below w.heap.size w (w.alloc (.cells (cs (List.replicate X.length 0)) 56)) := (Below.refl _ _).alloc (Nat.le_refl _) _
  go_enter Tryz.func112, Tryz.ntmps112
  go_wp2_with fail
  go_loopw [7, 8] (fun c i wr => ∃ (k r : Nat) (ys : List Nat), k ≤ X.length ∧ c = .int .u64 (r : Int) ∧ i = .int .i64 ((k : Int) - 1) ∧ r < M ∧ Row wr w.heap.size ys ∧ Below w.heap.size w wr ∧ ys.length = X.length ∧
      val (X.drop k) = val (ys.drop k) * M + r) (fun _ i _ => (intOf i + 1).toNat)
  case atStart => exact ⟨X.length, 0, _, Nat.le_refl _, rfl, rfl, hM, hr0, hb0, by simp, by simp [val]⟩
  case round =>
    obtain ⟨k, r, ys, hk, rfl, rfl, hrb, hr, hb, hyl, heq⟩ := hrel
    have Heq := hide heq
    have Hyl := hide hyl
    clear heq
    by_cases hk0 : 0 < k
    · obtain ⟨j, rfl⟩ : ∃ j, k = j + 1 := ⟨k - 1, by omega⟩
      obtain ⟨b, off, y, ho, gu, Hy⟩ := (hx.below hb (Nat.le_refl _)).get (i := j) (by omega)
      subst ho
      have gy := hr.cell (i := j) (by omega)
      have gw := hr.free j
      have hyb : y < 4294967296 := by have := ok.get j; rw [Hy.out] at this; exact this
      have hor := or_hi r y (by omega) hyb
      have hs := rshort_step (M := M) (q := (r * 4294967296 + y) / M) (r' := (r * 4294967296 + y) % M) hk hyl Hy.out Heq.out (by rw [Nat.mul_comm _ M]; exact (Nat.div_add_mod _ _).symm)
      have HS := hide hs
      have hq : ((r : Int) * 4294967296 + (y : Int)) / (M : Int) = (((r * 4294967296 + y) / M : Nat) : Int) := by simp
      have hm : ((r : Int) * 4294967296 + (y : Int)) % (M : Int) = (((r * 4294967296 + y) % M : Nat) : Int) := by simp
      have hqb : (r * 4294967296 + y) / M < 4294967296 := by
        rw [Nat.div_lt_iff_lt_mul hM]
        have : (r + 1) * 4294967296 ≤ M * 4294967296 := Nat.mul_le_mul_right _ hrb
        rw [Nat.mul_comm 4294967296 M]; omega
      have hmb : (r * 4294967296 + y) % M < M := Nat.mod_lt _ hM
      have HQ := hide hq
      have HM := hide hm
      clear hs hyl hq hm
      rw [show ((j + 1 : Nat) : Int) - 1 = (j : Int) from by omega]
      go_wp2_with fail
      have e3 : (((r * 4294967296 + y) / M : Nat) : Int) % 4294967296 = (((r * 4294967296 + y) / M : Nat) : Int) := by
        generalize (r * 4294967296 + y) / M = q at hqb ⊢
        omega
      rw [HQ.out, HM.out, e3]
      go_roundw
      case rel =>
        exact ⟨j, _, ys.set j ((r * 4294967296 + y) / M), by omega, rfl, by go_num, hmb, hr.set _ hqb, hb.setCell (Nat.le_refl _) _, by simpa using Hyl.out, HS.out⟩
      case measure => simp [intOf]
    · obtain rfl : k = 0 := by omega
      have hv : val X = val ys * M + r := by simpa using Heq.out
      have hd1 : dig (val X / M) = strip ys := by
        rw [hv, Nat.mul_comm, Nat.mul_add_div hM, Nat.div_eq_of_lt hrb, Nat.add_zero]
        exact dig_val hr.2
      have hd2 : r0 = r := by
        rw [← Hr0.out, hv, Nat.mul_comm, Nat.mul_add_mod, Nat.mod_eq_of_lt hrb]
      rw [Hq0.out] at hd1
      have HD := hide hd1
      subst hd2
      clear hv hd1
      go_wp2_with fail
      refine (rtrim_new_n _ _ _ ys wr hyl (by omega) (Nat.le_refl _) hr.2 hr.cells).mono ?_
      rintro e w2 ⟨v, rfl, hrd, hnw, hb2⟩
      rw [← HD.out] at hrd
      go_wp2
      go_ret2
      refine ⟨v, ?_, hrd, hnw.mono hb.size, hb.trans (hb2.mono hb.size)⟩
      have e3 : ((r0 : Nat) : Int) % 4294967296 = (r0 : Int) := by omega
      first
      | rfl
      | rw [e3]
set_option maxHeartbeats 2000000 in
set_option maxRecDepth 20000 in
/-- tesselref2.Zero, of the zero value. -/
theorem rzero_any (w : World) :
    Calls Tryz.prog 60 #[.agg #[.bool false, .slice none 0 0]] w fun e w' => e = .returned (.bool true) ∧ Below w.heap.size w w' := by
  go_enter Tryz.func60, Tryz.ntmps60
  have hb := Below.refl w.heap.size w
  have hp := Bk.new w false (.slice none 0 0)
  replace hb := hb.alloc hb.size (.cells #[.bool false, (.slice none 0 0)] 26)
  have f_hp := hp.facts
  go_wp2
  go_ret
  exact ⟨rfl, hb⟩
open Go
set_option linter.unusedVariables false
section
variable {w : World} {va vb : Value} {x y u v : Int} {l m k n : Nat}
set_option maxHeartbeats 4000000 in
set_option maxRecDepth 20000 in
theorem rgSame_any (ha : PC w va x y) (hq : PN w vb x l y m) (hl : l ≤ 100000000) (hm : m ≤ 100000000) :
    Calls Tryz.prog 32 #[va, vb] w fun e w' => e = .returned (.bool true) ∧ Below w.heap.size w w' := by
  obtain ⟨n_0a, o_0a, k_0a, c_0a, n_0b, o_0b, k_0b, c_0b, rfl, ha1, ha2⟩ := ha
  obtain ⟨n_1a, o_1a, k_1a, c_1a, n_1b, o_1b, k_1b, c_1b, rfl, hq1, hq2⟩ := hq
  go_enter Tryz.func32, Tryz.ntmps32
  have hs := St.nil w
  refine wp_seq_k ?_
  intro K1 hK1
  refine rg [0, 1, 2] ?_
  refine sq ?_
  refine .al hs ?_; clear hs; intro p_b1 w_1 hs n1 kb_b1
  refine sq ?_
  refine .al hs ?_; clear hs; intro p_b2 w_2 hs n2 kb_b2
  refine sq ?_
  refine .mv ?_
  apply wpSq_end
  refine hK1 _ _ ?_
  refine wp_seq_k ?_
  intro K2 hK2
  refine rg [0, 1, 2, 3, 4, 5, 6, 7, 8, 9, 10, 11, 12] ?_
  refine sq ?_
  refine .r0 ?_
  refine sq ?_
  refine .r4 hs.g1.f4 ?_
  refine sq ?_
  refine .r0 ?_
  refine sq ?_
  refine .r4 hs.g0.f4 ?_
  refine sq ?_
  intro K hK
  have k0_2 := (kb n1).b n2
  replace ha1 := ha1.k k0_2
  replace hq1 := hq1.k k0_2
  go_big_op
  go_fit (rsame_zz ha1 hq1 (by omega) )
  rintro e w_3 ⟨rfl, hb_3⟩
  replace hs := hs.bl hb_3
  refine hK _ _ rfl trivial ?_
  clear hK K
  refine sq ?_
  refine .mv ?_
  refine sq ?_
  refine .r0 ?_
  refine sq ?_
  refine .r4 hs.g1.f4 ?_
  refine sq ?_
  refine .r0 ?_
  refine sq ?_
  refine .r4 hs.g0.f4 ?_
  refine sq ?_
  intro K hK
  have k0_3 := k0_2.b hb_3
  replace ha2 := ha2.k k0_3
  replace hq2 := hq2.k k0_3
  go_big_op
  go_fit (rsame_zz ha2 hq2 (by omega) )
  rintro e w_4 ⟨rfl, hb_4⟩
  replace hs := hs.bl hb_4
  refine hK _ _ rfl trivial ?_
  clear hK K
  refine sq ?_
  refine .r0 ?_
  refine sq ?_
  refine .mv ?_
  apply wpSq_end
  refine hK2 _ _ ?_
  refine wp_ret ?_
  try dsimp only [Exit.then, Exit.inBlock]
  refine bodyPost_ret (v := (.bool true)) (by simp [results, Tryz.results32, go_sem]) rfl ?_
  have hb := hs.b
  exact ⟨rfl, hb⟩
set_option maxHeartbeats 4000000 in
set_option maxRecDepth 20000 in
theorem gis_any (ha : PC w va x y) (hq : PN w vb x l y m) (hl : l ≤ 90000000) (hm : m ≤ 90000000) :
    Calls Tryz.prog 10 #[va, vb] w fun e w' => e = .returned (.bool true) ∧ Below w.heap.size w w' := by
  obtain ⟨n_0a, o_0a, k_0a, c_0a, n_0b, o_0b, k_0b, c_0b, rfl, ha1, ha2⟩ := ha
  obtain ⟨n_1a, o_1a, k_1a, c_1a, n_1b, o_1b, k_1b, c_1b, rfl, hq1, hq2⟩ := hq
  go_enter Tryz.func10, Tryz.ntmps10
  have hs := St.nil w
  refine wp_seq_k ?_
  intro K1 hK1
  refine rg [0, 1, 2] ?_
  refine sq ?_
  refine .al hs ?_; clear hs; intro p_b1 w_1 hs n1 kb_b1
  refine sq ?_
  refine .al hs ?_; clear hs; intro p_b2 w_2 hs n2 kb_b2
  refine sq ?_
  refine .mv ?_
  apply wpSq_end
  refine hK1 _ _ ?_
  refine wp_seq_k ?_
  intro K2 hK2
  refine rg [0, 1, 2, 3] ?_
  refine sq ?_
  refine .r4 hs.g1.f4 ?_
  refine sq ?_
  refine .r4 hs.g0.f4 ?_
  refine sq ?_
  intro K hK
  have k0_2 := (kb n1).b n2
  replace ha1 := ha1.k k0_2
  replace ha2 := ha2.k k0_2
  replace hq1 := hq1.k k0_2
  replace hq2 := hq2.k k0_2
  go_big_op
  go_fit (rgSame_any (PC.mk' ha1 ha2) (PN.mk' hq1 hq2) (by omega) (by omega) )
  rintro e w_3 ⟨rfl, hb_3⟩
  replace hs := hs.bl hb_3
  refine hK _ _ rfl trivial ?_
  clear hK K
  refine sq ?_
  refine .mv ?_
  apply wpSq_end
  refine hK2 _ _ ?_
  refine wp_ret ?_
  try dsimp only [Exit.then, Exit.inBlock]
  refine bodyPost_ret (v := (.bool true)) (by simp [results, Tryz.results10, go_sem]) rfl ?_
  have hb := hs.b
  exact ⟨rfl, hb⟩
set_option maxHeartbeats 4000000 in
set_option maxRecDepth 20000 in
theorem rgI_any (a b : Int) (w : World) (h1 : -9223372036854775808 ≤ a) (h2 : a ≤ 9223372036854775807) (h3 : -9223372036854775808 ≤ b) (h4 : b ≤ 9223372036854775807) :
    Calls Tryz.prog 30 #[.int .i64 a, .int .i64 b] w fun e w' => ∃ r, e = .returned r ∧ PC w' r a b ∧ Below w.heap.size w w' := by
  go_enter Tryz.func30, Tryz.ntmps30
  have hs := St.nil w
  refine wp_seq_k ?_
  intro K1 hK1
  refine rg [0] ?_
  refine sq ?_
  refine .al hs ?_; clear hs; intro p_b1 w_1 hs n1 kb_b1
  apply wpSq_end
  refine hK1 _ _ ?_
  refine wp_seq_k ?_
  intro K2 hK2
  refine rg [0, 1, 2, 3, 4, 5] ?_
  refine sq ?_
  refine .mv ?_
  refine sq ?_
  intro K hK
  go_big_op
  go_fit (ri_any a _ h1 h2)
  rintro e w_2 ⟨v_g1, rfl, g1, hb_2⟩
  replace hs := hs.bl hb_2
  replace g1 := g1.rd
  obtain ⟨n_g1, o_g1, k_g1, c_g1, rfl⟩ := g1.open2
  refine hK _ _ rfl trivial ?_
  clear hK K
  refine sq ?_
  refine .mv ?_
  refine sq ?_
  intro K hK
  go_big_op
  go_fit (ri_any b _ h3 h4)
  rintro e w_3 ⟨v_g2, rfl, g2, hb_3⟩
  replace hs := hs.bl hb_3
  replace g2 := g2.rd
  obtain ⟨n_g2, o_g2, k_g2, c_g2, rfl⟩ := g2.open2
  refine hK _ _ rfl trivial ?_
  clear hK K
  refine sq ?_
  refine .r0 ?_
  refine sq ?_
  refine .s4 hs.g0 (fun _ => hs.u0 kb_b1) ?_; clear hs; intro w_4 hs hd4 ho4
  apply wpSq_end
  refine hK2 _ _ ?_
  refine wp_ret ?_
  try dsimp only [Exit.then, Exit.inBlock]
  obtain ⟨r0_0, r0_1, r0_2, r0_3⟩ := hs.g0.f4
  refine bodyPost_ret (v := (.agg #[.bool n_g1, .slice o_g1 k_g1 c_g1, .bool n_g2, .slice o_g2 k_g2 c_g2])) (by simp [results, Tryz.results30, go_sem, r0_0, r0_1, r0_2, r0_3]) rfl ?_
  have k2_4 := (kb hb_3).o hd4 ho4
  replace g1 := g1.k k2_4
  have k3_4 := ko hd4 ho4
  replace g2 := g2.k k3_4
  exact ⟨_, rfl, .mk' g1 g2, hs.b⟩
set_option maxHeartbeats 4000000 in
set_option maxRecDepth 20000 in
theorem gg_any (a b : Int) (w : World) (h1 : -9223372036854775808 ≤ a) (h2 : a ≤ 9223372036854775807) (h3 : -9223372036854775808 ≤ b) (h4 : b ≤ 9223372036854775807) :
    Calls Tryz.prog 8 #[.int .i64 a, .int .i64 b] w fun e w' => ∃ r, e = .returned r ∧ PC w' r a b ∧ Below w.heap.size w w' := by
  go_enter Tryz.func8, Tryz.ntmps8
  have hs := St.nil w
  refine wp_seq_k ?_
  intro K1 hK1
  refine rg [0] ?_
  refine sq ?_
  refine .al hs ?_; clear hs; intro p_b1 w_1 hs n1 kb_b1
  apply wpSq_end
  refine hK1 _ _ ?_
  refine wp_seq_k ?_
  intro K2 hK2
  refine rg [0, 1, 2, 3] ?_
  refine sq ?_
  refine .mv ?_
  refine sq ?_
  refine .mv ?_
  refine sq ?_
  intro K hK
  go_big_op
  go_fit (rgI_any a b _ h1 h2 h3 h4)
  rintro e w_2 ⟨_, rfl, ⟨n_g1a, o_g1a, k_g1a, c_g1a, n_g1b, o_g1b, k_g1b, c_g1b, rfl, g11, g12⟩, hb_2⟩
  replace hs := hs.bl hb_2
  refine hK _ _ rfl trivial ?_
  clear hK K
  refine sq ?_
  refine .s4 hs.g0 (fun _ => hs.u0 kb_b1) ?_; clear hs; intro w_3 hs hd3 ho3
  apply wpSq_end
  refine hK2 _ _ ?_
  refine wp_ret ?_
  try dsimp only [Exit.then, Exit.inBlock]
  obtain ⟨r0_0, r0_1, r0_2, r0_3⟩ := hs.g0.f4
  refine bodyPost_ret (v := (.agg #[.bool n_g1a, .slice o_g1a k_g1a c_g1a, .bool n_g1b, .slice o_g1b k_g1b c_g1b])) (by simp [results, Tryz.results8, go_sem, r0_0, r0_1, r0_2, r0_3]) rfl ?_
  have k2_3 := ko hd3 ho3
  replace g11 := g11.k k2_3
  replace g12 := g12.k k2_3
  exact ⟨_, rfl, .mk' g11 g12, hs.b⟩
set_option maxHeartbeats 4000000 in
set_option maxRecDepth 20000 in
theorem gFrom_any (a b : Int) (w : World) (h1 : -9223372036854775808 ≤ a) (h2 : a ≤ 9223372036854775807) (h3 : -9223372036854775808 ≤ b) (h4 : b ≤ 9223372036854775807) :
    Calls Tryz.prog 25 #[.int .i64 a, .int .i64 b] w fun e w' => ∃ r, e = .returned r ∧ PC w' r a b ∧ Below w.heap.size w w' := by
  go_enter Tryz.func25, Tryz.ntmps25
  have hs := St.nil w
  refine wp_seq_k ?_
  intro K1 hK1
  refine rg [0] ?_
  refine sq ?_
  refine .al hs ?_; clear hs; intro p_b1 w_1 hs n1 kb_b1
  apply wpSq_end
  refine hK1 _ _ ?_
  refine wp_seq_k ?_
  intro K2 hK2
  refine rg [0, 1, 2, 3, 4, 5] ?_
  refine sq ?_
  refine .mv ?_
  refine sq ?_
  intro K hK
  go_big_op
  go_fit (from_any a _ h1 h2)
  rintro e w_2 ⟨v_g1, rfl, g1, hb_2⟩
  replace hs := hs.bl hb_2
  replace g1 := g1.rd
  obtain ⟨n_g1, o_g1, k_g1, c_g1, rfl⟩ := g1.open2
  refine hK _ _ rfl trivial ?_
  clear hK K
  refine sq ?_
  refine .mv ?_
  refine sq ?_
  intro K hK
  go_big_op
  go_fit (from_any b _ h3 h4)
  rintro e w_3 ⟨v_g2, rfl, g2, hb_3⟩
  replace hs := hs.bl hb_3
  replace g2 := g2.rd
  obtain ⟨n_g2, o_g2, k_g2, c_g2, rfl⟩ := g2.open2
  refine hK _ _ rfl trivial ?_
  clear hK K
  refine sq ?_
  refine .r0 ?_
  refine sq ?_
  refine .s4 hs.g0 (fun _ => hs.u0 kb_b1) ?_; clear hs; intro w_4 hs hd4 ho4
  apply wpSq_end
  refine hK2 _ _ ?_
  refine wp_ret ?_
  try dsimp only [Exit.then, Exit.inBlock]
  obtain ⟨r0_0, r0_1, r0_2, r0_3⟩ := hs.g0.f4
  refine bodyPost_ret (v := (.agg #[.bool n_g1, .slice o_g1 k_g1 c_g1, .bool n_g2, .slice o_g2 k_g2 c_g2])) (by simp [results, Tryz.results25, go_sem, r0_0, r0_1, r0_2, r0_3]) rfl ?_
  have k2_4 := (kb hb_3).o hd4 ho4
  replace g1 := g1.k k2_4
  have k3_4 := ko hd4 ho4
  replace g2 := g2.k k3_4
  exact ⟨_, rfl, .mk' g1 g2, hs.b⟩
end
def parseI (s : ByteArray) : Int := if 65536 < s.size then 12 else if digitsB s.data.toList then 0 else 7
def parseD (s : ByteArray) : List Nat := if 65536 < s.size then [] else if digitsB s.data.toList then dig (pval s.data.toList) else []
theorem pval_append (a b : List UInt8) : pval (a ++ b) = pval a * 10 ^ b.length + pval b := by
  refine revInd (p := fun b => pval (a ++ b) = pval a * 10 ^ b.length + pval b) ?_ ?_ b
  · simp [pval]
  · intro l c ih
    rw [← List.append_assoc, pval_snoc, pval_snoc, ih, List.length_append, List.length_singleton, Nat.pow_succ, Nat.add_mul, Nat.mul_assoc, Nat.add_assoc]
theorem two_le_pw' {n m : Nat} (h : n ≤ 32 * m) : 2 ^ n ≤ pw m := by
  rw [pw_eq]; exact Nat.pow_le_pow_right (by decide) h
theorem pval_dig_length {l : List UInt8} (hd : l.all isD = true) (hl : l.length ≤ 65536) : (dig (pval l)).length ≤ 8192 := by
  have h := pval_lt hd (Nat.le_refl _)
  refine dig_length_le (Nat.lt_of_lt_of_le h ?_)
  have e : (10 : Nat) ^ l.length ≤ 16 ^ l.length := Nat.pow_le_pow_left (by decide) _
  have e2 : (16 : Nat) ^ l.length = 2 ^ (4 * l.length) := by rw [Nat.pow_mul]
  rw [e2] at e
  exact Nat.le_trans e (two_le_pw' (by omega))
set_option maxHeartbeats 1000000 in
set_option maxRecDepth 20000 in
theorem parse_any (s : ByteArray) (w : World) (hs : s.size ≤ 1000000000) :
    Calls Tryz.prog 82 #[.string s] w fun e w' => ∃ v, e = .returned (.tuple #[v, .int .i64 (parseI s)]) ∧ Rd w' v (parseD s) ∧ Below w.heap.size w w' := by
  by_cases h1 : 65536 < s.size
  · have e1 : parseI s = 12 := by unfold parseI; rw [if_pos h1]
    have e2 : parseD s = [] := by unfold parseD; rw [if_pos h1]
    rw [e1, e2]
    go_enter Tryz.func82, Tryz.ntmps82
    go_wp2_with fail
    go_ret2
    exact ⟨_, rfl, ⟨none, 0, rfl, Nat.le_refl _, OK.nil, .inl rfl⟩, Below.refl _ _⟩
  · by_cases h2 : digitsB s.data.toList = true
    · have e1 : parseI s = 0 := by unfold parseI; rw [if_neg h1, if_pos h2]
      have e2 : parseD s = dig (pval s.data.toList) := by unfold parseD; rw [if_neg h1, if_pos h2]
      rw [e1, e2]
      have hall : s.data.toList.all isD = true := by unfold digitsB at h2; rw [Bool.and_eq_true] at h2; exact h2.1
      have hne : 0 < s.size := by
        unfold digitsB at h2
        rw [Bool.and_eq_true] at h2
        rcases Nat.eq_zero_or_pos s.size with h | h
        · have e : s.data.toList = [] := List.length_eq_zero_iff.1 (by rw [Array.length_toList]; exact h)
          rw [e] at h2; simp at h2
        · exact h
      have Hall := hide hall
      clear e1 e2 hall
      go_enter Tryz.func82, Tryz.ntmps82
      go_wp2_with fail
      refine (isDigits_any s w (by omega)).mono ?_
      rintro e w' ⟨rfl, rfl⟩
      rw [h2]
      clear h2
      go_wp2_with fail
      go_loopw [4, 5] (fun v i wr => ∃ e q : Nat, i = .int .i64 (e : Int) ∧ 1 ≤ e ∧ e + 9 * q = s.size + 9 ∧ wr.ownsRow w.heap.size 56 1 v (dig (pval (s.data.toList.take (e - 9)))).length ((dig (pval (s.data.toList.take (e - 9)))).map dv) ∧ Below w.heap.size w wr) (fun _ i _ => s.size + 9 - (intOf i).toNat)
      case atStart =>
        refine ⟨(s.size - 1) % 9 + 1, (s.size - 1) / 9 + 1, congrArg (fun z : Int => Value.int .i64 z) (by omega), by omega, by omega, ?_, Below.refl _ _⟩
        rw [show (s.size - 1) % 9 + 1 - 9 = 0 by omega]
        exact World.ownsRow_nil _ _ _ _
      case round =>
        obtain ⟨e, q, rfl, he1, heq, hown, hb⟩ := hrel
        by_cases hq : e ≤ s.size
        · have hpre : (s.data.toList.take (e - 9)).all isD = true := by
            have h := Hall.out
            rw [← List.take_append_drop (e - 9) s.data.toList, List.all_append, Bool.and_eq_true] at h
            exact h.1
          have hlen := pval_dig_length hpre (by rw [List.length_take]; omega)
          have hgd : (s.extract (e - 9) e).data.toList = (s.data.toList.drop (e - 9)).take (e - (e - 9)) := Lib.extract_data s (e - 9) e
          have hgall : (s.extract (e - 9) e).data.toList.all isD = true := by
            rw [hgd]
            have h := Hall.out
            rw [List.all_eq_true] at h ⊢
            exact fun x hx => h x (List.mem_of_mem_drop (List.mem_of_mem_take hx))
          have hgs : (s.extract (e - 9) e).size ≤ 9 := by rw [ByteArray.size_extract]; omega
          have hgv := groupValue_any (s.extract (e - 9) e)
          have hgl : (s.extract (e - 9) e).data.toList.length ≤ 9 := by rw [Array.length_toList]; exact hgs
          have hgb := pval_lt hgall hgl
          have hstep : pval (s.data.toList.take (e - 9)) * 1000000000 + pval (s.extract (e - 9) e).data.toList = pval (s.data.toList.take (e + 9 - 9)) := by
            rw [Nat.add_sub_cancel]
            have hsp : s.data.toList.take e = s.data.toList.take (e - 9) ++ (s.extract (e - 9) e).data.toList := by
              rw [hgd]
              have h1 := List.take_append_drop (e - 9) (s.data.toList.take e)
              rw [List.take_take, Nat.min_eq_left (by omega), List.drop_take] at h1
              exact h1.symm
            rw [hsp, pval_append]
            by_cases h9 : 9 ≤ e
            · have : (s.extract (e - 9) e).data.toList.length = 9 := by
                rw [hgd, List.length_take, List.length_drop, Array.length_toList]
                show min (e - (e - 9)) (s.size - (e - 9)) = 9
                omega
              rw [this]
            · have h0 : e - 9 = 0 := by omega
              rw [h0]; simp [pval]
          have HSt := hide hstep
          have hgb' : pval (s.extract (e - 9) e).data.toList < 1000000000 := by simpa using hgb
          clear hstep hgb hgl hgd hpre
          go_wp2_with fail
          rw [show (max (0 : Int) ((e : Int) - 9)).toNat = e - 9 from by omega]
          refine (hgv wr hgs hgall).mono ?_
          rintro e' w' ⟨rfl, rfl⟩
          generalize hP : pval (s.extract (e - 9) e).data.toList = P at *
          go_wp2_with fail
          refine (putGroup_any w.heap.size _ P _ wr hgb' hown hb.size (by omega)).mono ?_
          rintro e' w2 ⟨v', rfl, hown2, hb2⟩
          rw [HSt.out] at hown2
          clear hP
          go_wp2
          go_roundw
          case rel => exact ⟨e + 9, q - 1, by go_num, by omega, by omega, hown2, hb.trans hb2⟩
          case measure => simp [intOf]; omega
        · have hqe : e = s.size + 9 := by omega
          subst hqe
          rw [Nat.add_sub_cancel, take_size] at hown
          have okd := OK_dig (pval s.data.toList)
          go_wp2_with fail
          go_ret2
          exact ⟨_, rfl, Rd.of_owns okd hown, hb⟩
    · have e1 : parseI s = 7 := by unfold parseI; rw [if_neg h1, if_neg h2]
      have e2 : parseD s = [] := by unfold parseD; rw [if_neg h1, if_neg h2]
      rw [e1, e2]
      have h2' : digitsB s.data.toList = false := by simpa using h2
      clear h2
      go_enter Tryz.func82, Tryz.ntmps82
      go_wp2_with fail
      refine (isDigits_any s w (by omega)).mono ?_
      rintro e w' ⟨rfl, rfl⟩
      rw [h2']
      go_wp2
      go_ret2
      exact ⟨_, rfl, ⟨none, 0, rfl, Nat.le_refl _, OK.nil, .inl rfl⟩, Below.refl _ _⟩
set_option maxHeartbeats 400000 in
set_option maxRecDepth 20000 in
theorem rDigits_any (s : ByteArray) (w : World) (hs : s.size ≤ 1000000) :
    Calls Tryz.prog 83 #[.string s] w fun e w' => e = .returned (.bool (digitsB s.data.toList)) ∧ w = w' := by
  obtain ⟨r, Hr⟩ : ∃ r, Hid (digitsB s.data.toList = r) := ⟨_, rfl⟩
  rw [Hr.out]
  go_enter Tryz.func83, Tryz.ntmps83
  go_wp2_with fail
  go_loop [3] (fun i => ∃ k : Nat, k ≤ s.size ∧ i = .int .i64 (k : Int) ∧ (s.data.toList.take k).all isD = true) (fun i => s.size - (intOf i).toNat)
  case atStart => exact ⟨0, Nat.zero_le _, rfl, by simp⟩
  case round =>
    obtain ⟨k, hk, rfl, hall⟩ := hrel
    have Hall := hide hall
    clear hall
    by_cases hlt : k < s.size
    · have hts := take_snoc s k hlt
      by_cases hd : 48 ≤ s[k].toNat ∧ s[k].toNat ≤ 57
      · have h1 : ¬ (s[k].toNat : Int) < 48 := by omega
        have h2 : ¬ (57 : Int) < (s[k].toNat : Int) := by omega
        have HS : Hid ((s.data.toList.take (k + 1)).all isD = true) := by
          show _ = true
          rw [hts, List.all_append, Hall.out]; simp [isD, hd]
        clear hts hd
        go_wp2
        all_goals go_round
        case rel => exact ⟨k + 1, hlt, by go_num, HS.out⟩
        case measure => simp [intOf]; omega
      · have hr : r = false := by
          rw [← Hr.out]
          unfold digitsB
          have : s.data.toList.all isD = false := by
            have e := List.take_append_drop (k + 1) s.data.toList
            rw [← e, List.all_append, hts, List.all_append]
            have : isD s[k] = false := by simp [isD]; omega
            simp [this]
          rw [this]; rfl
        have HR := hide hr
        clear hr hts
        by_cases h1 : s[k].toNat < 48
        · have h1' : (s[k].toNat : Int) < 48 := by omega
          go_wp2
          all_goals go_ret
          all_goals exact ⟨by rw [HR.out]; rfl, rfl⟩
        · have h1' : ¬ (s[k].toNat : Int) < 48 := by omega
          have h2' : (57 : Int) < (s[k].toNat : Int) := by omega
          go_wp2
          all_goals go_ret
          all_goals exact ⟨by rw [HR.out]; rfl, rfl⟩
    · obtain rfl : k = s.size := by omega
      have hr : decide (0 < s.size) = r := by
        rw [← Hr.out]
        have h1 := Hall.out
        rw [take_size] at h1
        unfold digitsB
        rw [h1, Bool.true_and]
        have e : s.size = s.data.toList.length := by rw [Array.length_toList]; rfl
        rw [e]
        cases s.data.toList <;> simp
      have HR := hide hr
      clear hr
      go_wp2_with fail
      go_ret
      refine ⟨?_, rfl⟩
      rw [← HR.out]
      simp
end Go.Proofs.YtlomgfgedkkhkaaGreatDoor
