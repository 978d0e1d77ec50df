/- Texts with a sign: CutPrefix, the references Is and Parse. -/
import Derived.Test.YtjfjlloibmebeaaGreatU5ToR10
import Derived.Test.YtjfjlloibmebeaaGreatR11
import Derived.Test.YtjfjlloibmebeaaGreatR12
import Derived.Test.YtjfjlloibmebeaaGreatG3ToM5
import Derived.Test.YtjfjlloibmebeaaGreatA9ToRt

namespace Go.Proofs.YtjfjlloibmebeaaGreat
open Go.RowKit Dig
end Go.Proofs.YtjfjlloibmebeaaGreat

/- zint.Parse, Text; the reference's Text. -/
namespace Go.Proofs.YtjfjlloibmebeaaGreat
open Go.RowKit Dig
end Go.Proofs.YtjfjlloibmebeaaGreat

/- Texts with a sign, in one piece: what is a number, and which. -/
namespace Go.Proofs.YtjfjlloibmebeaaGreat
open Go Go.RowKit Dig
set_option linter.unusedVariables false
end Go.Proofs.YtjfjlloibmebeaaGreat

/- gint: Text; the law's awake. -/
namespace Go.Proofs.YtjfjlloibmebeaaGreat
open Go Go.RowKit Dig
set_option linter.unusedVariables false
section
variable {w : World} {va vb : Value} {x y u v : Int} {l m k n : Nat}
end
end Go.Proofs.YtjfjlloibmebeaaGreat

/- The reference's Round, Zero; what quotients and rests are. -/
namespace Go.Proofs.YtjfjlloibmebeaaGreat
open Go Go.RowKit Dig
set_option linter.unusedVariables false
section
variable {w : World} {va vb : Value} {x y u v : Int} {l m k n : Nat}
end
end Go.Proofs.YtjfjlloibmebeaaGreat

/- gint: Cmp, IsUnit, Canon; the reference's. -/
namespace Go.Proofs.YtjfjlloibmebeaaGreat
open Go Go.RowKit Dig
set_option maxHeartbeats 4000000
set_option maxRecDepth 20000
set_option linter.unusedVariables false
section
variable {w : World} {va vb : Value} {x y u v : Int} {l m k n : Nat}
theorem bits_zero {n : Nat} : bitsN n = 0 ↔ n = 0 := bitsN_zero
theorem bits_one {n : Nat} : bitsN n = 1 ↔ n = 1 := by
 constructor
 · intro h
   have h1 := bitsN_lt n
   rw [h] at h1
   have h2 : n ≠ 0 := fun c => by rw [bits_zero.2 c] at h; omega
   omega
 · rintro rfl; rfl
theorem bits_bd {A l : Nat} (h : A < pw l) : bitsN A ≤ 32 * l := by
 rcases Nat.eq_zero_or_pos A with h0 | h0
 · rw [h0]; exact Nat.zero_le _
 · have h3 := bitsN_le (Nat.ne_of_gt h0)
   rw [pw_eq] at h
   have h4 := (Nat.pow_lt_pow_iff_right (by decide : 1 < 2)).1 (Nat.lt_of_le_of_lt h3 h)
   omega
theorem unit_bits (x y : Int) : (bitsN x.natAbs + bitsN y.natAbs = 1) ↔ gN x y = 1 := by
 have ex : x * x = ((x.natAbs * x.natAbs : Nat) : Int) := (Int.natAbs_mul_self).symm
 have ey : y * y = ((y.natAbs * y.natAbs : Nat) : Int) := (Int.natAbs_mul_self).symm
 unfold gN
 rw [ex, ey]
 generalize x.natAbs = a
 generalize y.natAbs = b
 constructor
 · intro h
   rcases (show (bitsN a = 0 ∧ bitsN b = 1) ∨ (bitsN a = 1 ∧ bitsN b = 0) by omega) with ⟨h1, h2⟩ | ⟨h1, h2⟩
   · rw [bits_zero.1 h1, bits_one.1 h2]; rfl
   · rw [bits_one.1 h1, bits_zero.1 h2]; rfl
 · intro h
   have h' : a * a + b * b = 1 := by exact_mod_cast h
   have ha : a ≤ 1 := by
     rcases Nat.lt_or_ge 1 a with c | c
     · have := Nat.mul_le_mul c c; omega
     · exact c
   have hb : b ≤ 1 := by
     rcases Nat.lt_or_ge 1 b with c | c
     · have := Nat.mul_le_mul c c; omega
     · exact c
   rcases (show a = 0 ∨ a = 1 by omega) with rfl | rfl <;> rcases (show b = 0 ∨ b = 1 by omega) with rfl | rfl
   · exact absurd h' (by decide)
   · rfl
   · rfl
   · exact absurd h' (by decide)
theorem gUnit_yes (ha : PN w va x l y m) (hl : l ≤ 10000000) (hm : m ≤ 10000000) (h : gN x y = 1) :
   Calls Tryz.prog 87 #[va] w fun e w' => e = .returned (.bool true) ∧ Below w.heap.size w w' := by
 have h1 := bits_bd (Nat.lt_of_lt_of_le (lt_pw_dig x.natAbs) (pw_mono ha.len1))
 have h2 := bits_bd (Nat.lt_of_lt_of_le (lt_pw_dig y.natAbs) (pw_mono ha.len2))
 rw [← unit_bits] at h
 obtain ⟨A, hA⟩ : ∃ A, bitsN x.natAbs = A := ⟨_, rfl⟩
 obtain ⟨B, hB⟩ : ∃ B, bitsN y.natAbs = B := ⟨_, rfl⟩
 rw [hA] at h h1
 rw [hB] at h h2
 have HA := hide hA
 have HB := hide hB
 have hw : wrap64 ((A : Int) + (B : Int)) = ((A + B : Nat) : Int) := by unfold wrap64; omega
 have hw2 : IntKind.i64.wrap ((A : Int) + (B : Int)) = ((A + B : Nat) : Int) := by rw [IntKind.wrap_i64]; omega
 have hz : (((A + B : Nat) : Int) == 1) = true := by rw [h]; rfl
 generalize A + B = C at *
 clear hA hB h h1 h2
 obtain ⟨n_0a, o_0a, k_0a, c_0a, n_0b, o_0b, k_0b, c_0b, rfl, ha1, ha2⟩ := ha
 go_enter Tryz.func87, Tryz.ntmps87
 have hs := St.nil w
 refine wp_seq_k fun K1 hK1 => rg [0, 1] ?_
 refine sq ?_
 refine .al hs ?_; clear hs; intro p_b1 w_1 hs n1 kb_b1
 refine sm ?_
 apply wpSq_end
 refine hK1 _ _ ?_
 refine wp_seq_k ?_
 intro K2 hK2
 refine wp_region_f4 [(0, false), (1, false), (3, false), (4, false), (2, true), (5, true), (6, false), (7, false), (8, false)] [] [] (fun _ => default) [99, 0, 99, 99, 0, 99, 99, 99, 99] [] (.c hs.g0 .n) fn fun w_2 n2 => ?_
 replace hs := hs.bl n2
 refine f0 ?_
 refine f4 ?_
 refine f0 ?_
 refine f4 ?_
 refine fl fun w_3 n3 => ?_
 replace hs := hs.bl n3
 intro K hK
 have k0_3 := ((kb n1).b n2).b n3
 replace ha1 := ha1.k k0_3
 go_big_op
 go_fit (zbits_any ha1 (by omega) )
 rintro e w_4 ⟨rfl, hb_4⟩
 replace hs := hs.bl hb_4
 rw [HA.out]
 refine hK _ _ rfl ⟨hb_4, (And.intro hs.g0 trivial)⟩ ?_
 clear hK K
 refine fl fun w_5 n5 => ?_
 replace hs := hs.bl n5
 intro K hK
 have k0_5 := (k0_3.b hb_4).b n5
 replace ha2 := ha2.k k0_5
 go_big_op
 go_fit (zbits_any ha2 (by omega) )
 rintro e w_6 ⟨rfl, hb_6⟩
 replace hs := hs.bl hb_6
 rw [HB.out]
 refine hK _ _ rfl ⟨hb_6, (And.intro hs.g0 trivial)⟩ ?_
 clear hK K
 refine f0 ?_
 refine f0 ?_
 refine fmv ?_
 refine e0 hs ?_; clear hs; intro w_7 hs n7
 apply wpTail_end
 refine hK2 _ _ ?_
 refine wp_ret ?_
 try dsimp only [Exit.then, Exit.inBlock]
 refine bodyPost_ret (v := (.bool true)) (by simp [results, Tryz.results87, go_sem]) rfl ?_
 have hb := hs.b
 exact ⟨rfl, hb⟩
theorem rgUnit_yes (ha : PN w va x l y m) (hl : l ≤ 10000000) (hm : m ≤ 10000000) (h : gN x y = 1) :
   Calls Tryz.prog 96 #[va] w fun e w' => e = .returned (.bool true) ∧ Below w.heap.size w w' := by
 have hz : (zcmp (gN x y) 1 == 0) = true := by rw [zcmp_eq h]; rfl
 obtain ⟨C, hC⟩ : ∃ C, zcmp (gN x y) 1 = C := ⟨_, rfl⟩
 rw [hC] at hz
 have HC := hide hC
 clear h hC
 obtain ⟨n_0a, o_0a, k_0a, c_0a, n_0b, o_0b, k_0b, c_0b, rfl, ha1, ha2⟩ := ha
 go_enter Tryz.func96, Tryz.ntmps96
 have hs := St.nil w
 refine wp_seq_k fun K1 hK1 => rg [0, 1] ?_
 refine sq ?_
 refine .al hs ?_; clear hs; intro p_b1 w_1 hs n1 kb_b1
 refine sm ?_
 apply wpSq_end
 refine hK1 _ _ ?_
 refine wp_seq_k fun K2 hK2 => rg [0, 1, 2, 3, 4, 5] ?_
 refine sq ?_
 refine .r4 hs.g0.f4 ?_
 refine sq ?_
 intro K hK
 have k0_1 := kb n1
 replace ha1 := ha1.k k0_1
 replace ha2 := ha2.k k0_1
 go_big_op
 go_fit (rgNorm_any (PN.mk' ha1 ha2) (by omega) (by omega) )
 rintro e w_2 ⟨v_g, rfl, g, hb_2⟩
 replace hs := hs.bl hb_2
 obtain ⟨n_g, o_g, k_g, c_g, rfl⟩ := g.open2
 have Lg := hide (g.lenOf (zlen_add (zlen_mul (ha1.len) (ha1.len)) (zlen_mul (ha2.len) (ha2.len))))
 refine hK _ _ rfl trivial ?_
 clear hK K
 refine sq ?_
 intro K hK
 go_big_op
 go_fit (ri_any 1 _ (by decide) (by decide))
 rintro e w_3 ⟨v_g3, rfl, g3, hb_3⟩
 replace hs := hs.bl hb_3
 replace g3 := g3.rd
 obtain ⟨n_g3, o_g3, k_g3, c_g3, rfl⟩ := g3.open2
 have Lg3 := hide (g3.lenOf (zlen_i (1 : Int) (by decide) (by decide)))
 refine hK _ _ rfl trivial ?_
 clear hK K
 refine sq ?_
 intro K hK
 have k2_3 := kb hb_3
 replace g := g.k k2_3
 go_big_op
 go_fit (rzcmp_any (g.zn Lg.out) (g3.zn Lg3.out) (by omega) (by omega) )
 rintro e w_4 ⟨rfl, hb_4⟩
 replace hs := hs.bl hb_4
 rw [HC.out]
 refine hK _ _ rfl trivial ?_
 clear hK K
 refine sr ?_
 refine sm ?_
 apply wpSq_end
 refine hK2 _ _ ?_
 refine wp_ret ?_
 try dsimp only [Exit.then, Exit.inBlock]
 refine bodyPost_ret (v := (.bool true)) (by simp [results, Tryz.results96, go_sem]) rfl ?_
 have hb := hs.b
 exact ⟨rfl, hb⟩
theorem gUnit_no (ha : PN w va x l y m) (hl : l ≤ 10000000) (hm : m ≤ 10000000) (h : ¬ gN x y = 1) :
   Calls Tryz.prog 87 #[va] w fun e w' => e = .returned (.bool false) ∧ Below w.heap.size w w' := by
 have h1 := bits_bd (Nat.lt_of_lt_of_le (lt_pw_dig x.natAbs) (pw_mono ha.len1))
 have h2 := bits_bd (Nat.lt_of_lt_of_le (lt_pw_dig y.natAbs) (pw_mono ha.len2))
 rw [← unit_bits] at h
 obtain ⟨A, hA⟩ : ∃ A, bitsN x.natAbs = A := ⟨_, rfl⟩
 obtain ⟨B, hB⟩ : ∃ B, bitsN y.natAbs = B := ⟨_, rfl⟩
 rw [hA] at h h1
 rw [hB] at h h2
 have HA := hide hA
 have HB := hide hB
 have hw : wrap64 ((A : Int) + (B : Int)) = ((A + B : Nat) : Int) := by unfold wrap64; omega
 have hw2 : IntKind.i64.wrap ((A : Int) + (B : Int)) = ((A + B : Nat) : Int) := by rw [IntKind.wrap_i64]; omega
 have hz : (((A + B : Nat) : Int) == 1) = false := by rw [beq_eq_false_iff_ne]; omega
 generalize A + B = C at *
 clear hA hB h h1 h2
 obtain ⟨n_0a, o_0a, k_0a, c_0a, n_0b, o_0b, k_0b, c_0b, rfl, ha1, ha2⟩ := ha
 go_enter Tryz.func87, Tryz.ntmps87
 have hs := St.nil w
 refine wp_seq_k fun K1 hK1 => rg [0, 1] ?_
 refine sq ?_
 refine .al hs ?_; clear hs; intro p_b1 w_1 hs n1 kb_b1
 refine sm ?_
 apply wpSq_end
 refine hK1 _ _ ?_
 refine wp_seq_k ?_
 intro K2 hK2
 refine wp_region_f4 [(0, false), (1, false), (3, false), (4, false), (2, true), (5, true), (6, false), (7, false), (8, false)] [] [] (fun _ => default) [99, 0, 99, 99, 0, 99, 99, 99, 99] [] (.c hs.g0 .n) fn fun w_2 n2 => ?_
 replace hs := hs.bl n2
 refine f0 ?_
 refine f4 ?_
 refine f0 ?_
 refine f4 ?_
 refine fl fun w_3 n3 => ?_
 replace hs := hs.bl n3
 intro K hK
 have k0_3 := ((kb n1).b n2).b n3
 replace ha1 := ha1.k k0_3
 go_big_op
 go_fit (zbits_any ha1 (by omega) )
 rintro e w_4 ⟨rfl, hb_4⟩
 replace hs := hs.bl hb_4
 rw [HA.out]
 refine hK _ _ rfl ⟨hb_4, (And.intro hs.g0 trivial)⟩ ?_
 clear hK K
 refine fl fun w_5 n5 => ?_
 replace hs := hs.bl n5
 intro K hK
 have k0_5 := (k0_3.b hb_4).b n5
 replace ha2 := ha2.k k0_5
 go_big_op
 go_fit (zbits_any ha2 (by omega) )
 rintro e w_6 ⟨rfl, hb_6⟩
 replace hs := hs.bl hb_6
 rw [HB.out]
 refine hK _ _ rfl ⟨hb_6, (And.intro hs.g0 trivial)⟩ ?_
 clear hK K
 refine f0 ?_
 refine f0 ?_
 refine fmv ?_
 refine e0 hs ?_; clear hs; intro w_7 hs n7
 apply wpTail_end
 refine hK2 _ _ ?_
 refine wp_ret ?_
 try dsimp only [Exit.then, Exit.inBlock]
 refine bodyPost_ret (v := (.bool false)) (by simp [results, Tryz.results87, go_sem]) rfl ?_
 have hb := hs.b
 exact ⟨rfl, hb⟩
theorem rgUnit_no (ha : PN w va x l y m) (hl : l ≤ 10000000) (hm : m ≤ 10000000) (h : ¬ gN x y = 1) :
   Calls Tryz.prog 96 #[va] w fun e w' => e = .returned (.bool false) ∧ Below w.heap.size w w' := by
 have hz : (zcmp (gN x y) 1 == 0) = false := by exact zcmp_ne h
 obtain ⟨C, hC⟩ : ∃ C, zcmp (gN x y) 1 = C := ⟨_, rfl⟩
 rw [hC] at hz
 have HC := hide hC
 clear h hC
 obtain ⟨n_0a, o_0a, k_0a, c_0a, n_0b, o_0b, k_0b, c_0b, rfl, ha1, ha2⟩ := ha
 go_enter Tryz.func96, Tryz.ntmps96
 have hs := St.nil w
 refine wp_seq_k fun K1 hK1 => rg [0, 1] ?_
 refine sq ?_
 refine .al hs ?_; clear hs; intro p_b1 w_1 hs n1 kb_b1
 refine sm ?_
 apply wpSq_end
 refine hK1 _ _ ?_
 refine wp_seq_k fun K2 hK2 => rg [0, 1, 2, 3, 4, 5] ?_
 refine sq ?_
 refine .r4 hs.g0.f4 ?_
 refine sq ?_
 intro K hK
 have k0_1 := kb n1
 replace ha1 := ha1.k k0_1
 replace ha2 := ha2.k k0_1
 go_big_op
 go_fit (rgNorm_any (PN.mk' ha1 ha2) (by omega) (by omega) )
 rintro e w_2 ⟨v_g, rfl, g, hb_2⟩
 replace hs := hs.bl hb_2
 obtain ⟨n_g, o_g, k_g, c_g, rfl⟩ := g.open2
 have Lg := hide (g.lenOf (zlen_add (zlen_mul (ha1.len) (ha1.len)) (zlen_mul (ha2.len) (ha2.len))))
 refine hK _ _ rfl trivial ?_
 clear hK K
 refine sq ?_
 intro K hK
 go_big_op
 go_fit (ri_any 1 _ (by decide) (by decide))
 rintro e w_3 ⟨v_g3, rfl, g3, hb_3⟩
 replace hs := hs.bl hb_3
 replace g3 := g3.rd
 obtain ⟨n_g3, o_g3, k_g3, c_g3, rfl⟩ := g3.open2
 have Lg3 := hide (g3.lenOf (zlen_i (1 : Int) (by decide) (by decide)))
 refine hK _ _ rfl trivial ?_
 clear hK K
 refine sq ?_
 intro K hK
 have k2_3 := kb hb_3
 replace g := g.k k2_3
 go_big_op
 go_fit (rzcmp_any (g.zn Lg.out) (g3.zn Lg3.out) (by omega) (by omega) )
 rintro e w_4 ⟨rfl, hb_4⟩
 replace hs := hs.bl hb_4
 rw [HC.out]
 refine hK _ _ rfl trivial ?_
 clear hK K
 refine sr ?_
 refine sm ?_
 apply wpSq_end
 refine hK2 _ _ ?_
 refine wp_ret ?_
 try dsimp only [Exit.then, Exit.inBlock]
 refine bodyPost_ret (v := (.bool false)) (by simp [results, Tryz.results96, go_sem]) rfl ?_
 have hb := hs.b
 exact ⟨rfl, hb⟩
theorem gUnit_any (ha : PN w va x l y m) (hl : l ≤ 10000000) (hm : m ≤ 10000000) :
   Calls Tryz.prog 87 #[va] w fun e w' => e = .returned (.bool (decide (gN x y = 1))) ∧ Below w.heap.size w w' := by
 by_cases h : gN x y = 1
 · rw [decide_eq_true h]; exact gUnit_yes ha hl hm h
 · rw [decide_eq_false h]; exact gUnit_no ha hl hm h
theorem rgUnit_any (ha : PN w va x l y m) (hl : l ≤ 10000000) (hm : m ≤ 10000000) :
   Calls Tryz.prog 96 #[va] w fun e w' => e = .returned (.bool (decide (gN x y = 1))) ∧ Below w.heap.size w w' := by
 by_cases h : gN x y = 1
 · rw [decide_eq_true h]; exact rgUnit_yes ha hl hm h
 · rw [decide_eq_false h]; exact rgUnit_no ha hl hm h
end
end Go.Proofs.YtjfjlloibmebeaaGreat

/- gdet: Inverse; the reference's. -/
namespace Go.Proofs.YtjfjlloibmebeaaGreat
open Go Go.RowKit Dig
set_option maxHeartbeats 4000000
set_option maxRecDepth 20000
set_option linter.unusedVariables false
set_option linter.unusedSimpArgs false
theorem Tot.brd {T n : Nat} {Ms : List (List (Int × Int))} (h : Tot T Ms) (hn : Ms.length = n) (h64 : n ≤ 64) : MinB (n + n) (n + n) (T + 64 + 2001) (Go.Proofs.YtjfjlloibmebeaaGreat.brd n (at2 Ms)) := by
 subst hn
 obtain ⟨b, hT, hb⟩ := h
 rw [brd_G]
 refine minB_brd (b := b) (d := fun _ => 1) (D := 64) (by omega) hT (by rw [sN_one]; omega) (fun i hi q hq => ?_) (fun i _ q _ => zl_one i q)
 have h0 : rw_ Ms i = Ms[i] := by simp [rw_, List.getD, hi]
 unfold at2
 rw [h0]
 rcases Nat.lt_or_ge q Ms[i].length with c | c
 · have : at1 Ms[i] q = Ms[i][q] := by simp [at1, List.getD, c]
   rw [this]; exact hb i hi _ (List.getElem_mem c)
 · have : at1 Ms[i] q = (0, 0) := by simp [at1, List.getD, c]
   rw [this]; exact zl_0 _
theorem zl_adjE {n L i j : Nat} {M : Nat → Nat → Int × Int} (hB : MinB (n + n) (n + n) L (brd n M)) (hi : i < n) (hj : j < n) : zl L (adjE n M i j) := by
 have h := (hB.D n (n + i) (by omega) (n + j) (by omega))
 rw [brd_D hi hj] at h
 have h1 : zl L (-(adjE n M i j).1, -(adjE n M i j).2) := h
 exact ⟨Nat.le_trans (Nat.le_of_eq (by rw [Int.natAbs_neg])) h1.1, Nat.le_trans (Nat.le_of_eq (by rw [Int.natAbs_neg])) h1.2⟩
def invE (n : Nat) (M : Nat → Nat → Int × Int) (i j : Nat) : Int × Int := mP (adjE n M i j) ((Dt.det n M).1, -(Dt.det n M).2)
theorem zl_invE {n L i j : Nat} {M : Nat → Nat → Int × Int} (hB : MinB (n + n) (n + n) L (brd n M)) (hD : zl L (Dt.det n M)) (hi : i < n) (hj : j < n) : zl (L + L + 1) (invE n M i j) :=
 zl_mP (zl_adjE hB hi hj) ⟨hD.1, Nat.le_trans (Nat.le_of_eq (by rw [Int.natAbs_neg])) hD.2⟩
theorem mkM_invE {n : Nat} {M : Nat → Nat → Int × Int} : (mkM n n fun i j => mP (at2 (mkM n n (adjE n M)) i j) ((Dt.det n M).1, -(Dt.det n M).2)) = mkM n n (invE n M) := mkM_eq rfl rfl fun i hi j hj => by rw [at2_mkM hi hj]; rfl
section
variable {w : World} {la n L ca r l : Nat} {oa : Option Addr} {A : List (List (Int × Int))}
theorem inverse_bad (ha : MN la w oa A) (hna : A.length = n) (h : ¬ (gd A ∧ wd A = n)) (hla : n ≤ 1000000000) :
   Calls Tryz.prog 18 #[.slice oa n ca] w fun e w' => e = .returned (.tuple #[.slice none 0 0, .int .i64 4]) ∧ Below w.heap.size w w' := by
 have HA := hide ha
 have H := hide h
 clear ha h
 go_enter Tryz.func18, Tryz.ntmps18
 have hs := St.nil w
 refine wp_seq_k fun K1 hK1 => rg [0, 1] ?_
 refine sm ?_
 refine sm ?_
 apply wpSq_end
 refine hK1 _ _ ?_
 refine wp_seq_k fun K2 hK2 => rg [0, 1, 2, 3, 4, 5, 6, 7] ?_
 refine sm ?_
 refine sq ?_
 intro K hK
 have hb := hs.b
 go_big_op
 go_fit (det_bad (HA.out.bl stab_n hb) hna H.out hla)
 rintro e w_1 ⟨rfl, hb_1⟩
 clear hb
 replace hs := hs.bl hb_1
 refine hK _ _ rfl trivial ?_
 clear hK K
 refine sm ?_
 refine sr ?_
 refine sr ?_
 refine sq ?_
 refine .al hs ?_; clear hs; intro p_b1 w_2 hs n2 kb_b1
 refine sq ?_
 refine .s4 hs.g0 (fun _ => hs.u0 kb_b1) ?_; clear hs; intro w_3 hs hd3 ho3
 refine sm ?_
 apply wpSq_end
 refine hK2 _ _ ?_
 refine wp_seq_k ?_
 intro K3 hK3
 refine wp_seq_k fun K4 hK4 => rg [0, 1] ?_
 refine sm ?_
 refine sr ?_
 apply wpSq_end
 refine hK4 _ _ ?_
 refine ct ?_
 refine wp_seq_k fun K5 hK5 => rg [0, 1, 2] ?_
 refine sm ?_
 refine sm ?_
 refine sm ?_
 apply wpSq_end
 refine hK5 _ _ ?_
 refine wp_ret ?_
 try dsimp only [Exit.then, Exit.inBlock]
 refine bodyPost_ret (v := (.tuple #[(.slice none 0 0), (.int .i64 4)])) (by simp [results, Tryz.results18, go_sem]) rfl ?_
 exact ⟨rfl, hs.b⟩
theorem inverse_none (ha : MN la w oa A) (hna : A.length = n) (h : gd A) (hk : wd A = n) (hB : MinB n n L (at2 A)) (hL : L ≤ 3000000) (hla : la ≤ 20000000) (hu : gN (Dt.det n (at2 A)).1 (Dt.det n (at2 A)).2 ≠ 1) :
   Calls Tryz.prog 18 #[.slice oa n ca] w fun e w' => e = .returned (.tuple #[.slice none 0 0, .int .i64 10]) ∧ Below w.heap.size w w' := by
 have HA := hide ha
 have H := hide h
 have HK := hide hk
 have HB := hide hB
 have HU := hide hu
 have LD := hide (show zl L (Dt.det n (at2 A)) from hB n id id (fun r hr => ⟨hr, hr⟩) (fun r q h _ => by simp only [id]; omega))
 clear ha h hk hB hu
 go_enter Tryz.func18, Tryz.ntmps18
 have hs := St.nil w
 refine wp_seq_k fun K1 hK1 => rg [0, 1] ?_
 refine sm ?_
 refine sm ?_
 apply wpSq_end
 refine hK1 _ _ ?_
 refine wp_seq_k fun K2 hK2 => rg [0, 1, 2, 3, 4, 5, 6, 7] ?_
 refine sm ?_
 refine sq ?_
 intro K hK
 have hb := hs.b
 go_big_op
 go_fit (det_ok (HA.out.bl stab_n hb) hna H.out HK.out HB.out hL hla)
 rintro e w_1 ⟨_, rfl, ⟨n_da, o_da, k_da, c_da, n_db, o_db, k_db, c_db, rfl, d1, d2⟩, hb_1⟩
 clear hb
 replace hs := hs.bl hb_1
 have Ld1 := hide (d1.lenOf (LD.out.1))
 have Ld2 := hide (d2.lenOf (LD.out.2))
 refine hK _ _ rfl trivial ?_
 clear hK K
 refine sm ?_
 refine sr ?_
 refine sr ?_
 refine sq ?_
 refine .al hs ?_; clear hs; intro p_b1 w_2 hs n2 kb_b1
 refine sq ?_
 refine .s4 hs.g0 (fun _ => hs.u0 kb_b1) ?_; clear hs; intro w_3 hs hd3 ho3
 refine sm ?_
 apply wpSq_end
 refine hK2 _ _ ?_
 refine wp_seq_k ?_
 intro K3 hK3
 refine wp_seq_k fun K4 hK4 => rg [0, 1] ?_
 refine sm ?_
 refine sr ?_
 apply wpSq_end
 refine hK4 _ _ ?_
 refine cf ?_
 refine wp_skip ?_
 refine hK3 _ _ ?_
 refine wp_seq_k ?_
 intro K5 hK5
 refine wp_seq_k fun K6 hK6 => rg [0, 1, 2] ?_
 refine sq ?_
 refine .r4 hs.g0.f4 ?_
 refine sq ?_
 intro K hK
 have k1_3 := (kb n2).o hd3 ho3
 replace d1 := d1.k k1_3
 replace d2 := d2.k k1_3
 go_big_op
 go_fit (gUnit_any (.mk' (d1.zn Ld1.out) (d2.zn Ld2.out)) (by omega) (by omega))
 rintro e w_4 ⟨rfl, hb_4⟩
 replace hs := hs.bl hb_4
 rw [decide_eq_false HU.out]
 refine hK _ _ rfl trivial ?_
 clear hK K
 refine sr ?_
 apply wpSq_end
 refine hK6 _ _ ?_
 refine ct ?_
 refine wp_seq_k fun K7 hK7 => rg [0, 1] ?_
 refine sm ?_
 refine sm ?_
 apply wpSq_end
 refine hK7 _ _ ?_
 refine wp_ret ?_
 try dsimp only [Exit.then, Exit.inBlock]
 refine bodyPost_ret (v := (.tuple #[(.slice none 0 0), (.int .i64 10)])) (by simp [results, Tryz.results18, go_sem]) rfl ?_
 exact ⟨rfl, hs.b⟩
theorem inverse_ok (ha : MN la w oa A) (hna : A.length = n) (h : gd A) (hk : wd A = n) (hB : MinB n n L (at2 A)) (hC : MinB (n + n) (n + n) L (brd n (at2 A))) (hL : L ≤ 3000000) (hla : la ≤ 9000000) (hu : gN (Dt.det n (at2 A)).1 (Dt.det n (at2 A)).2 = 1) :
   Calls Tryz.prog 18 #[.slice oa n ca] w fun e w' => ∃ o c rs, e = .returned (.tuple #[.slice o n c, .int .i64 0]) ∧ rs.length = n ∧ St w (Mx w.heap.size (.slice o n c) rs) w' ∧ RD w' rs (mkM n n (invE n (at2 A))) ∧ Below w.heap.size w w' := by
 have HA := hide ha
 have H := hide h
 have HK := hide hk
 have HB := hide hB
 have HC := hide hC
 have HU := hide hu
 have hn64 : n ≤ 64 := by have := h.1; omega
 have LD := hide (show zl L (Dt.det n (at2 A)) from hB n id id (fun r hr => ⟨hr, hr⟩) (fun r q h _ => by simp only [id]; omega))
 have BJ := hide (show BdM L (mkM n n (adjE n (at2 A))) from bdM_mk fun i hi j hj => zl_adjE hC hi hj)
 have GJ := hide (show gd (mkM n n (adjE n (at2 A))) from gd_mkM hn64 hn64)
 have WJ := hide (show wd (mkM n n (adjE n (at2 A))) = n from wd_mkM (by omega))
 have LE := hide (show L ≤ 40000000 by omega)
 clear ha h hk hB hC hu
 go_enter Tryz.func18, Tryz.ntmps18
 have hs := St.nil w
 refine wp_seq_k fun K1 hK1 => rg [0, 1] ?_
 refine sm ?_
 refine sm ?_
 apply wpSq_end
 refine hK1 _ _ ?_
 refine wp_seq_k fun K2 hK2 => rg [0, 1, 2, 3, 4, 5, 6, 7] ?_
 refine sm ?_
 refine sq ?_
 intro K hK
 have hb := hs.b
 go_big_op
 go_fit (det_ok (HA.out.bl stab_n hb) hna H.out HK.out HB.out hL (by omega))
 rintro e w_1 ⟨_, rfl, ⟨n_da, o_da, k_da, c_da, n_db, o_db, k_db, c_db, rfl, d1, d2⟩, hb_1⟩
 clear hb
 replace hs := hs.bl hb_1
 have Ld1 := hide (d1.lenOf (LD.out.1))
 have Ld2 := hide (d2.lenOf (LD.out.2))
 refine hK _ _ rfl trivial ?_
 clear hK K
 refine sm ?_
 refine sr ?_
 refine sr ?_
 refine sq ?_
 refine .al hs ?_; clear hs; intro p_b1 w_2 hs n2 kb_b1
 refine sq ?_
 refine .s4 hs.g0 (fun _ => hs.u0 kb_b1) ?_; clear hs; intro w_3 hs hd3 ho3
 refine sm ?_
 apply wpSq_end
 refine hK2 _ _ ?_
 refine wp_seq_k ?_
 intro K3 hK3
 refine wp_seq_k fun K4 hK4 => rg [0, 1] ?_
 refine sm ?_
 refine sr ?_
 apply wpSq_end
 refine hK4 _ _ ?_
 refine cf ?_
 refine wp_skip ?_
 refine hK3 _ _ ?_
 refine wp_seq_k ?_
 intro K5 hK5
 refine wp_seq_k fun K6 hK6 => rg [0, 1, 2] ?_
 refine sq ?_
 refine .r4 hs.g0.f4 ?_
 refine sq ?_
 intro K hK
 have k1_3 := (kb n2).o hd3 ho3
 replace d1 := d1.k k1_3
 replace d2 := d2.k k1_3
 go_big_op
 go_fit (gUnit_any (.mk' (d1.zn Ld1.out) (d2.zn Ld2.out)) (by omega) (by omega))
 rintro e w_4 ⟨rfl, hb_4⟩
 replace hs := hs.bl hb_4
 rw [decide_eq_true HU.out]
 refine hK _ _ rfl trivial ?_
 clear hK K
 refine sr ?_
 apply wpSq_end
 refine hK6 _ _ ?_
 refine cf ?_
 refine wp_skip ?_
 refine hK5 _ _ ?_
 refine wp_seq_k fun K7 hK7 => rg [0, 1, 2, 3, 4, 5, 6] ?_
 refine sm ?_
 refine sq ?_
 intro K hK
 have hb := hs.b
 go_big_op
 go_fit (adjugate_ok (HA.out.bl stab_n hb) hna H.out HK.out HC.out hL hla)
 rintro e w_5 ⟨o_J, c_J, rs_J, rfl, hl_J, hs_J, d_J, hb_5⟩
 clear hb
 replace hs := hs.mx hl_J hs_J; simp only [List.cons_append, List.nil_append] at hs
 refine hK _ _ rfl trivial ?_
 clear hK K
 refine sm ?_
 refine sr ?_
 refine sr ?_
 refine sm ?_
 refine sm ?_
 apply wpSq_end
 refine hK7 _ _ ?_
 refine wp_seq_k fun K8 hK8 => rg [0, 1, 2, 3, 4, 5, 6, 7] ?_
 refine sm ?_
 refine sq ?_
 refine .r4 hs.g1.f4 ?_
 refine sq ?_
 intro K hK
 have k3_5 := (kb hb_4).b hb_5
 replace d1 := d1.k k3_5
 replace d2 := d2.k k3_5
 go_big_op
 go_fit (gConj_any (.mk' (d1.zn Ld1.out) (d2.zn Ld2.out)) (by omega) (by omega))
 rintro e w_6 ⟨_, rfl, ⟨n_e5a, o_e5a, k_e5a, c_e5a, n_e5b, o_e5b, k_e5b, c_e5b, rfl, e51, e52⟩, hb_6⟩
 replace hs := hs.bl hb_6
 have Le51 := hide (e51.lenOf (Ld1.out))
 have Le52 := hide (e52.lenOf (zlen_neg Ld2.out))
 refine hK _ _ rfl trivial ?_
 clear hK K
 refine sq ?_
 intro K hK
 have k5_6 := kb hb_6
 replace d_J := d_J.k k5_6
 go_big_op
 go_fit (mScale_ok ((MCof (c := c_J) hs (by simp) rfl (fun r hr ↦ by simp [List.mem_map_of_mem hr]) hl_J d_J).mn BJ.out) (.mk' (e51.zn Le51.out) (e52.zn Le52.out)) len_mkM GJ.out LE.out LE.out)
 rintro e w_7 ⟨o_S, c_S, rs_S, rfl, hl_S, hs_S, d_S, hb_7⟩
 replace hs := hs.mx hl_S hs_S; simp only [List.cons_append, List.nil_append] at hs
 rw [WJ.out, mkM_invE] at d_S
 refine hK _ _ rfl trivial ?_
 clear hK K
 refine sr ?_
 refine sr ?_
 refine sm ?_
 refine sm ?_
 apply wpSq_end
 refine hK8 _ _ ?_
 refine wp_ret ?_
 try dsimp only [Exit.then, Exit.inBlock]
 refine bodyPost_ret (v := (.tuple #[(.slice o_S n c_S), (.int .i64 0)])) (by simp [results, Tryz.results18, go_sem]) rfl ?_
 exact ⟨_, _, rs_S, rfl, hl_S, (by unfold Mx; rw [hl_S]; exact hs.sub (.cons_cons _ (.cons _ (.cons _ (List.sublist_append_right _ _))))), d_S, hs.b⟩
theorem rInverse_none (ha : MN la w oa A) (hna : A.length = n) (h : gd A) (hk : wd A = n) (hB : MinB n n L (at2 A)) (hL : L ≤ 3000000) (hL1 : 1 ≤ L) (hla : la ≤ 20000000) (hr : Dt.Rk n n (at2 A) r) (hu : gN (Dt.det n (at2 A)).1 (Dt.det n (at2 A)).2 ≠ 1) :
   Calls Tryz.prog 24 #[.slice oa n ca] w fun e w' => e = .returned (.tuple #[.slice none 0 0, .bool false]) ∧ Below w.heap.size w w' := by
 have HA := hide ha
 have H := hide h
 have HK := hide hk
 have HB := hide hB
 have HU := hide hu
 have HR := hide hr
 have LD := hide (show zl L (Dt.det n (at2 A)) from hB n id id (fun r hr => ⟨hr, hr⟩) (fun r q h _ => by simp only [id]; omega))
 clear ha h hk hB hu hr
 go_enter Tryz.func24, Tryz.ntmps24
 have hs := St.nil w
 refine wp_seq_k fun K1 hK1 => rg [0, 1] ?_
 refine sm ?_
 refine sm ?_
 apply wpSq_end
 refine hK1 _ _ ?_
 refine wp_seq_k fun K2 hK2 => rg [0, 1, 2, 3] ?_
 refine sm ?_
 refine sq ?_
 intro K hK
 have hb := hs.b
 go_big_op
 go_fit (rDet_any (HA.out.bl stab_n hb) hna H.out HK.out HB.out hL hL1 hla HR.out)
 rintro e w_1 ⟨_, rfl, ⟨n_da, o_da, k_da, c_da, n_db, o_db, k_db, c_db, rfl, d1, d2⟩, hb_1⟩
 clear hb
 replace hs := hs.bl hb_1
 have Ld1 := hide (d1.lenOf (LD.out.1))
 have Ld2 := hide (d2.lenOf (LD.out.2))
 refine hK _ _ rfl trivial ?_
 clear hK K
 refine sq ?_
 refine .al hs ?_; clear hs; intro p_b1 w_2 hs n2 kb_b1
 refine sq ?_
 refine .s4 hs.g0 (fun _ => hs.u0 kb_b1) ?_; clear hs; intro w_3 hs hd3 ho3
 apply wpSq_end
 refine hK2 _ _ ?_
 refine wp_seq_k ?_
 intro K3 hK3
 refine wp_seq_k fun K4 hK4 => rg [0, 1, 2] ?_
 refine sq ?_
 refine .r4 hs.g0.f4 ?_
 refine sq ?_
 intro K hK
 have k1_3 := (kb n2).o hd3 ho3
 replace d1 := d1.k k1_3
 replace d2 := d2.k k1_3
 go_big_op
 go_fit (rgUnit_any (.mk' (d1.zn Ld1.out) (d2.zn Ld2.out)) (by omega) (by omega))
 rintro e w_4 ⟨rfl, hb_4⟩
 replace hs := hs.bl hb_4
 rw [decide_eq_false HU.out]
 refine hK _ _ rfl trivial ?_
 clear hK K
 refine sr ?_
 apply wpSq_end
 refine hK4 _ _ ?_
 refine ct ?_
 refine wp_seq_k fun K5 hK5 => rg [0, 1] ?_
 refine sm ?_
 refine sm ?_
 apply wpSq_end
 refine hK5 _ _ ?_
 refine wp_ret ?_
 try dsimp only [Exit.then, Exit.inBlock]
 refine bodyPost_ret (v := (.tuple #[(.slice none 0 0), (.bool false)])) (by simp [results, Tryz.results24, go_sem]) rfl ?_
 exact ⟨rfl, hs.b⟩
theorem rInverse_ok (ha : MN la w oa A) (hna : A.length = n) (h : gd A) (hk : wd A = n) (hB : MinB n n L (at2 A)) (hC : MinB (n + n) (n + n) L (brd n (at2 A))) (hL : L ≤ 3000000) (hL1 : 1 ≤ L) (hla : la ≤ 9000000) (hr : Dt.Rk n n (at2 A) r) (hu : gN (Dt.det n (at2 A)).1 (Dt.det n (at2 A)).2 = 1) :
   Calls Tryz.prog 24 #[.slice oa n ca] w fun e w' => ∃ o c rs, e = .returned (.tuple #[.slice o n c, .bool true]) ∧ rs.length = n ∧ St w (Mx w.heap.size (.slice o n c) rs) w' ∧ RD w' rs (mkM n n (invE n (at2 A))) ∧ Below w.heap.size w w' := by
 have HA := hide ha
 have H := hide h
 have HK := hide hk
 have HB := hide hB
 have HC := hide hC
 have HU := hide hu
 have HR := hide hr
 have hn64 : n ≤ 64 := by have := h.1; omega
 have LD := hide (show zl L (Dt.det n (at2 A)) from hB n id id (fun r hr => ⟨hr, hr⟩) (fun r q h _ => by simp only [id]; omega))
 have BJ := hide (show BdM L (mkM n n (adjE n (at2 A))) from bdM_mk fun i hi j hj => zl_adjE hC hi hj)
 have GJ := hide (show gd (mkM n n (adjE n (at2 A))) from gd_mkM hn64 hn64)
 have WJ := hide (show wd (mkM n n (adjE n (at2 A))) = n from wd_mkM (by omega))
 have LE := hide (show L ≤ 20000000 by omega)
 clear ha h hk hB hC hu hr
 go_enter Tryz.func24, Tryz.ntmps24
 have hs := St.nil w
 refine wp_seq_k fun K1 hK1 => rg [0, 1] ?_
 refine sm ?_
 refine sm ?_
 apply wpSq_end
 refine hK1 _ _ ?_
 refine wp_seq_k fun K2 hK2 => rg [0, 1, 2, 3] ?_
 refine sm ?_
 refine sq ?_
 intro K hK
 have hb := hs.b
 go_big_op
 go_fit (rDet_any (HA.out.bl stab_n hb) hna H.out HK.out HB.out hL hL1 (by omega) HR.out)
 rintro e w_1 ⟨_, rfl, ⟨n_da, o_da, k_da, c_da, n_db, o_db, k_db, c_db, rfl, d1, d2⟩, hb_1⟩
 clear hb
 replace hs := hs.bl hb_1
 have Ld1 := hide (d1.lenOf (LD.out.1))
 have Ld2 := hide (d2.lenOf (LD.out.2))
 refine hK _ _ rfl trivial ?_
 clear hK K
 refine sq ?_
 refine .al hs ?_; clear hs; intro p_b1 w_2 hs n2 kb_b1
 refine sq ?_
 refine .s4 hs.g0 (fun _ => hs.u0 kb_b1) ?_; clear hs; intro w_3 hs hd3 ho3
 apply wpSq_end
 refine hK2 _ _ ?_
 refine wp_seq_k ?_
 intro K3 hK3
 refine wp_seq_k fun K4 hK4 => rg [0, 1, 2] ?_
 refine sq ?_
 refine .r4 hs.g0.f4 ?_
 refine sq ?_
 intro K hK
 have k1_3 := (kb n2).o hd3 ho3
 replace d1 := d1.k k1_3
 replace d2 := d2.k k1_3
 go_big_op
 go_fit (rgUnit_any (.mk' (d1.zn Ld1.out) (d2.zn Ld2.out)) (by omega) (by omega))
 rintro e w_4 ⟨rfl, hb_4⟩
 replace hs := hs.bl hb_4
 rw [decide_eq_true HU.out]
 refine hK _ _ rfl trivial ?_
 clear hK K
 refine sr ?_
 apply wpSq_end
 refine hK4 _ _ ?_
 refine cf ?_
 refine wp_skip ?_
 refine hK3 _ _ ?_
 refine wp_seq_k ?_
 intro K5 hK5
 refine wp_region_f4 [(0, false), (2, false), (1, true), (3, true), (4, true), (5, false), (6, false)] [] [] (fun _ => default) [99, 99, 0, 99, 99, 99, 99] [] (.c hs.g0 .n) fn fun w_5 n5 => ?_
 replace hs := hs.bl n5
 refine fmv ?_
 refine f4 ?_
 refine fl fun w_6 n6 => ?_
 replace hs := hs.bl n6
 intro K hK
 have hb := hs.b
 go_big_op
 go_fit (rAdjg_any (HA.out.bl stab_n hb) hna H.out HK.out HB.out hL hL1 hla)
 rintro e w_7 ⟨o_J, c_J, rs_J, rfl, hl_J, hs_J, d_J, hb_7⟩
 clear hb
 replace hs := hs.mx hl_J hs_J; simp only [List.cons_append, List.nil_append] at hs
 refine hK _ _ rfl ⟨hb_7, (And.intro hs.g1 trivial)⟩ ?_
 clear hK K
 refine fl fun w_8 n8 => ?_
 replace hs := hs.bl n8
 intro K hK
 have k3_8 := ((((kb hb_4).b n5).b n6).b hb_7).b n8
 replace d1 := d1.k k3_8
 replace d2 := d2.k k3_8
 go_big_op
 go_fit (rgConj_any (.mk' (d1.zn Ld1.out) (d2.zn Ld2.out)) (by omega) (by omega))
 rintro e w_9 ⟨_, rfl, ⟨n_e5a, o_e5a, k_e5a, c_e5a, n_e5b, o_e5b, k_e5b, c_e5b, rfl, e51, e52⟩, hb_9⟩
 replace hs := hs.bl hb_9
 have Le51 := hide (e51.lenOf (Ld1.out))
 have Le52 := hide (e52.lenOf (zlen_neg Ld2.out))
 refine hK _ _ rfl ⟨hb_9, (And.intro hs.g1 trivial)⟩ ?_
 clear hK K
 refine fl fun w_10 n10 => ?_
 replace hs := hs.bl n10
 intro K hK
 have k7_10 := ((kb n8).b hb_9).b n10
 replace d_J := d_J.k k7_10
 have k9_10 := kb n10
 replace e51 := e51.k k9_10
 replace e52 := e52.k k9_10
 go_big_op
 go_fit (rScale_any ((MCof (c := c_J) hs (by simp) rfl (fun r hr ↦ by simp [List.mem_map_of_mem hr]) hl_J d_J).mn BJ.out) (.mk' (e51.zn Le51.out) (e52.zn Le52.out)) len_mkM GJ.out WJ.out LE.out LE.out)
 rintro e w_11 ⟨o_S, c_S, rs_S, rfl, hl_S, hs_S, d_S, hb_11⟩
 replace hs := hs.mx hl_S hs_S; simp only [List.cons_append, List.nil_append] at hs
 rw [mkM_invE] at d_S
 refine hK _ _ rfl ⟨hb_11, (And.intro hs.g2 trivial)⟩ ?_
 clear hK K
 refine fmv ?_
 refine fmv ?_
 refine e0 hs ?_; clear hs; intro w_12 hs n12
 apply wpTail_end
 refine hK5 _ _ ?_
 refine wp_ret ?_
 have k11_12 := kb n12
 replace d_S := d_S.k k11_12
 try dsimp only [Exit.then, Exit.inBlock]
 refine bodyPost_ret (v := (.tuple #[(.slice o_S n c_S), (.bool true)])) (by simp [results, Tryz.results24, go_sem]) rfl ?_
 exact ⟨_, _, rs_S, rfl, hl_S, (by unfold Mx; rw [hl_S]; exact hs.sub (.cons_cons _ (.cons _ (.cons _ (List.sublist_append_right _ _))))), d_S, hs.b⟩
end
end Go.Proofs.YtjfjlloibmebeaaGreat
