/- Taking a number out of another as often as it is in it: gprime.takeOut. -/
import Derived.Test.YthlhekkcjficdaaGreatWkToG2
import Derived.Test.YthlhekkcjficdaaGreatZaToJ6
import Derived.Test.YthlhekkcjficdaaGreatDrToJ2
import Derived.Scope
import Derived.Test.YthlhekkcjficdaaGreatG3ToR10

namespace Go.Proofs.YthlhekkcjficdaaGreat
open Go Go.RowKit Dig
set_option linter.unusedVariables false

/-- It is in it. -/
def gDv (x y u v : Int) : Prop := (gT1 x y u v).fmod (gN u v) = 0 ∧ (gT2 x y u v).fmod (gN u v) = 0
instance (x y u v : Int) : Decidable (gDv x y u v) := inferInstanceAs (Decidable (_ ∧ _))
def gD1 (x y u v : Int) : Int := (gT1 x y u v).fdiv (gN u v)
def gD2 (x y u v : Int) : Int := (gT2 x y u v).fdiv (gN u v)
theorem fmod_mul {a n : Int} (hn : n ≠ 0) (h : a.fmod n = 0) : a = n * a.fdiv n := by
  have := Int.mul_fdiv_add_fmod a n
  omega
theorem gD_eq {x y u v : Int} (h0 : gN u v ≠ 0) (h : gDv x y u v) : x = gD1 x y u v * u - gD2 x y u v * v ∧ y = gD1 x y u v * v + gD2 x y u v * u := by
  have h1 := fmod_mul h0 h.1
  have h2 := fmod_mul h0 h.2
  unfold gD1 gD2
  generalize (gT1 x y u v).fdiv (gN u v) = a at *
  generalize (gT2 x y u v).fdiv (gN u v) = b at *
  unfold gT1 at h1
  unfold gT2 at h2
  have e1 : gN u v * x = gN u v * (a * u - b * v) := by unfold gN at *; grind
  have e2 : gN u v * y = gN u v * (a * v + b * u) := by unfold gN at *; grind
  exact ⟨Int.eq_of_mul_eq_mul_left h0 e1, Int.eq_of_mul_eq_mul_left h0 e2⟩
theorem gD_norm {x y u v : Int} (h0 : gN u v ≠ 0) (h : gDv x y u v) : gN x y = gN (gD1 x y u v) (gD2 x y u v) * gN u v := by
  obtain ⟨h1, h2⟩ := gD_eq h0 h
  generalize gD1 x y u v = a at *
  generalize gD2 x y u v = b at *
  rw [h1, h2]; unfold gN; grind
theorem gD_small {x y u v : Int} (h2 : 2 ≤ gN u v) (h0 : gN x y ≠ 0) (h : gDv x y u v) : gN (gD1 x y u v) (gD2 x y u v) ≠ 0 ∧ 2 * gN (gD1 x y u v) (gD2 x y u v) ≤ gN x y := by
  have h1 := gD_norm (by omega) h
  have h3 := gN_nonneg (gD1 x y u v) (gD2 x y u v)
  generalize gN (gD1 x y u v) (gD2 x y u v) = A at *
  refine ⟨fun e => h0 (by rw [h1, e, Int.zero_mul]), ?_⟩
  rw [h1, Int.mul_comm 2]
  exact Int.mul_le_mul_of_nonneg_left h2 h3
/-- How often it is in it, and what is left. -/
def tkO (u v : Int) : Nat → Int → Int → Nat × (Int × Int)
  | 0, x, y => (0, (x, y))
  | f + 1, x, y => if gDv x y u v then ((tkO u v f (gD1 x y u v) (gD2 x y u v)).1 + 1, (tkO u v f (gD1 x y u v) (gD2 x y u v)).2) else (0, (x, y))
theorem tkO_fuel {u v : Int} (h2 : 2 ≤ gN u v) : ∀ (f g : Nat) (x y : Int), gN x y ≠ 0 → (gN x y).toNat ≤ f → (gN x y).toNat ≤ g → tkO u v f x y = tkO u v g x y := by
  intro f
  induction f with
  | zero => intro g x y h0 hf _; have := gN_nonneg x y; omega
  | succ f ih =>
    intro g x y h0 hf hg
    cases g with
    | zero => have := gN_nonneg x y; omega
    | succ g =>
      rw [tkO, tkO]
      split
      · rename_i hd
        obtain ⟨h3, h4⟩ := gD_small h2 h0 hd
        have h5 := gN_nonneg (gD1 x y u v) (gD2 x y u v)
        rw [ih g _ _ h3 (by omega) (by omega)]
      · rfl
def tkF (u v x y : Int) : Nat × (Int × Int) := tkO u v (gN x y).toNat x y
theorem tkF_yes {u v x y : Int} (h2 : 2 ≤ gN u v) (h0 : gN x y ≠ 0) (h : gDv x y u v) : tkF u v x y = ((tkF u v (gD1 x y u v) (gD2 x y u v)).1 + 1, (tkF u v (gD1 x y u v) (gD2 x y u v)).2) := by
  obtain ⟨h3, h4⟩ := gD_small h2 h0 h
  have h5 := gN_nonneg (gD1 x y u v) (gD2 x y u v)
  have h6 := gN_nonneg x y
  unfold tkF
  obtain ⟨f, hf⟩ : ∃ f, (gN x y).toNat = f + 1 := ⟨(gN x y).toNat - 1, by omega⟩
  rw [hf, tkO, if_pos h, tkO_fuel h2 f (gN (gD1 x y u v) (gD2 x y u v)).toNat _ _ h3 (by omega) (Nat.le_refl _)]
theorem tkF_no {u v x y : Int} (h : ¬ gDv x y u v) : tkF u v x y = (0, (x, y)) := by
  unfold tkF
  cases (gN x y).toNat with
  | zero => rfl
  | succ f => rw [tkO, if_neg h]
theorem len_of_norm {x y : Int} (h : gN x y < 4294967296) : (dig x.natAbs).length ≤ 1 ∧ (dig y.natAbs).length ≤ 1 := by
  have h1 := norm_small h
  exact ⟨zlen_small6 (Nat.lt_trans (bits_16.1 h1.1) (by decide)), zlen_small6 (Nat.lt_trans (bits_16.1 h1.2) (by decide))⟩
section
variable {w : World} {va vb : Value} {x y u v : Int}
set_option maxHeartbeats 4000000 in
set_option maxRecDepth 20000 in
theorem takeout_any (hq : PN w va u 1 v 1) {lg : Nat} (ha : PN w vb x lg y lg) (hlg : 1 ≤ lg) (hlm : lg ≤ 10000000) (h2 : 2 ≤ gN u v) (h0 : gN x y ≠ 0) (hn : gN x y < 4294967296) :
    Calls Tryz.prog 14 #[va, vb] w fun e w' => ∃ r, e = .returned (.tuple #[.int .i64 (((tkF u v x y).1 : Nat) : Int), r]) ∧ PN w' r (tkF u v x y).2.1 lg (tkF u v x y).2.2 lg ∧ Below w.heap.size w w' := by
  obtain ⟨T, hT⟩ : ∃ T, tkF u v x y = T := ⟨_, rfl⟩
  rw [hT]
  have HT := hide hT
  have H0 := hide (And.intro h0 (And.intro hn h2))
  have h00 := gN_nonneg x y
  obtain ⟨M, hM⟩ : ∃ M, (gN x y).toNat = M := ⟨_, rfl⟩
  have HM := hide hM
  have hM2 : M < 4294967296 := by omega
  clear hT h0 hn h2 hM h00
  obtain ⟨n_0a, o_0a, k_0a, c_0a, n_0b, o_0b, k_0b, c_0b, rfl, hq1, hq2⟩ := hq
  obtain ⟨n_1a, o_1a, k_1a, c_1a, n_1b, o_1b, k_1b, c_1b, rfl, ha1, ha2⟩ := ha
  go_enter Tryz.func14, Tryz.ntmps14
  have hs := St.nil w
  refine wp_seq_k ?_
  intro K1 hK1
  refine rg [0, 1, 2, 3] ?_
  refine sq ?_
  refine .al hs ?_; clear hs; intro p_b1 w_1 hs n1 kb_b1
  refine sq ?_
  refine .al hs ?_; clear hs; intro p_b2 w_2 hs n2 kb_b2
  refine sq ?_
  refine .mv ?_
  refine sq ?_
  refine .al hs ?_; clear hs; intro p_b3 w_3 hs n3 kb_b3
  apply wpSq_end
  refine hK1 _ _ ?_
  refine wp_block ?_
  have k0_3 := ((kb n1).b n2).b n3
  replace ha1 := ha1.k k0_3
  replace ha2 := ha2.k k0_3
  replace hq1 := hq1.k k0_3
  replace hq2 := hq2.k k0_3
  have hd4 := hs.2.1
  go_loopg [4] M (fun k s4 wr => ∃ (X Y : Int) (n : Nat) (an1 an2 : Bool) (ao1 ao2 : Option Addr) (ak1 ac1 ak2 ac2 : Nat), s4 = .int .i64 (n : Int) ∧ n + k ≤ M ∧ Hid (T = (n + (tkF u v X Y).1, (tkF u v X Y).2) ∧ gN X Y ≠ 0 ∧ (gN X Y).toNat ≤ k) ∧ ZN wr (.agg #[.bool an1, .slice ao1 ak1 ac1]) X lg ∧ ZN wr (.agg #[.bool an2, .slice ao2 ak2 ac2]) Y lg ∧ ZN wr (.agg #[.bool n_0a, .slice o_0a k_0a c_0a]) u 1 ∧ ZN wr (.agg #[.bool n_0b, .slice o_0b k_0b c_0b]) v 1 ∧
    St w [bx p_b3 #[.bool false, .slice none 0 0, .bool false, .slice none 0 0] 26, bx p_b2 #[.bool an1, .slice ao1 ak1 ac1, .bool an2, .slice ao2 ak2 ac2] 26, bx p_b1 #[.bool n_0a, .slice o_0a k_0a c_0a, .bool n_0b, .slice o_0b k_0b c_0b] 26] wr)
  case atStart => exact ⟨x, y, 0, _, _, _, _, _, _, _, _, rfl, by omega, hide ⟨by rw [HT.out, Nat.zero_add], H0.out.1, by rw [HM.out]; exact Nat.le_refl _⟩, ha1, ha2, hq1, hq2, hs⟩
  case round =>
  clear hq1 hq2 ha1 ha2 hs
  obtain ⟨X, Y, n, an1, an2, ao1, ao2, ak1, ac1, ak2, ac2, rfl, hnk, HI, a1, a2, hq1, hq2, hs⟩ := hrel
  by_cases hd : gDv X Y u v
  · have HD := hide (And.intro hd (gD_small H0.out.2.2 HI.out.2.1 hd))
    have HY := hide (tkF_yes H0.out.2.2 HI.out.2.1 hd)
    have hgk : (gN (gD1 X Y u v) (gD2 X Y u v)).toNat ≤ gk - 1 := by
      have := HD.out.2.2
      have := HD.out.2.1
      have := HI.out.2.2
      have := gN_nonneg X Y
      have := gN_nonneg (gD1 X Y u v) (gD2 X Y u v)
      omega
    have hg1 : 1 ≤ gk := by
      have := HI.out.2.2
      have := HI.out.2.1
      have := gN_nonneg X Y
      omega
    have HL := hide (len_of_norm (x := gD1 X Y u v) (y := gD2 X Y u v) (by have := gN_nonneg (gD1 X Y u v) (gD2 X Y u v); omega))
    have HI' := hide (show T = (n + 1 + (tkF u v (gD1 X Y u v) (gD2 X Y u v)).1, (tkF u v (gD1 X Y u v) (gD2 X Y u v)).2) ∧ gN (gD1 X Y u v) (gD2 X Y u v) ≠ 0 ∧ (gN (gD1 X Y u v) (gD2 X Y u v)).toNat ≤ gk - 1 from ⟨by rw [HI.out.1, HY.out]; simp only [Prod.mk.injEq, and_true]; omega, HD.out.2.1, hgk⟩)
    clear hd hgk
    refine wp_block ?_
    refine wp_seq_k ?_
    intro K2 hK2
    refine rg [0, 1, 2, 3, 4, 5, 6, 7, 8] ?_
    refine sq ?_
    refine .r4 hs.g1.f4 ?_
    refine sq ?_
    refine .r4 hs.g2.f4 ?_
    refine sq ?_
    intro K hK
    go_big_op
    go_fit (gExact_any (.mk' a1 a2) (.mk' hq1 hq2) (by omega) (by omega) (by omega) (by omega) (by have := H0.out.2.2; omega) HD.out.1.1 HD.out.1.2)
    rintro e w_5 ⟨_, rfl, ⟨n_qa, o_qa, k_qa, c_qa, n_qb, o_qb, k_qb, c_qb, rfl, q1, q2⟩, hb_5⟩
    replace hs := hs.bl hb_5
    have Lq1 := hide (q1.lenOf (HL.out.1))
    have Lq2 := hide (q2.lenOf (HL.out.2))
    refine hK _ _ rfl trivial ?_
    clear hK K
    refine sq ?_
    refine .mv ?_
    refine sq ?_
    refine .r0 ?_
    refine sq ?_
    refine .r0 ?_
    refine sq ?_
    refine .al hs ?_; clear hs; intro p_b4 w_6 hs n6 kb_b4
    refine sq ?_
    refine .s4 hs.g0 (fun _ => hs.u0 kb_b4) ?_; clear hs; intro w_7 hs hd7 ho7
    refine sq ?_
    refine .mv ?_
    apply wpSq_end
    refine hK2 _ _ ?_
    refine wp_seq_k ?_
    intro K3 hK3
    refine wp_seq_k ?_
    intro K4 hK4
    refine rg [0, 1] ?_
    refine sq ?_
    refine .mv ?_
    refine sq ?_
    refine .r0 ?_
    apply wpSq_end
    refine hK4 _ _ ?_
    refine cf ?_
    refine wp_skip ?_
    refine hK3 _ _ ?_
    refine wp_region_f4 [(0, false), (1, false), (2, false), (3, false)] [4] [] (fun _ => default) [99, 99, 0, 99, 99] [] (.c hs.g0 .n) fn fun w_8 n8 => ?_
    replace hs := hs.bl n8
    refine fmv ?_
    refine f0 ?_
    refine f4 ?_
    refine fmv ?_
    refine e0 hs ?_; clear hs; intro w_9 hs n9
    refine tl ?_
    refine .s4 hs.g2 (fun _ => hs.u2 kb_b2) ?_ (e := fun _ hs => (And.intro hs.g0 True.intro)); clear hs; intro w_10 hs hd10 ho10
    apply wpTail_end
    have k1_6 := ((((kb n6).o hd7 ho7).b n8).b n9).o hd10 ho10
    replace q1 := q1.k k1_6
    replace q2 := q2.k k1_6
    have k0_6 := (((((kb hb_5).b n6).o hd7 ho7).b n8).b n9).o hd10 ho10
    replace hq1 := hq1.k k0_6
    replace hq2 := hq2.k k0_6
    refine ‹∀ (a' : Act) (w' : World), Handed _ _ a' w' → _› _ _ ?_
    go_roundg (gk - 1)
    case rel => exact ⟨_, _, n + 1, _, _, _, _, _, _, _, _, by rfl, by omega, HI', q1.zn (Nat.le_trans HL.out.1 hlg), q2.zn (Nat.le_trans HL.out.2 hlg), hq1, hq2, hs.sub (.cons _ (List.Sublist.refl _))⟩
    case measure => omega
  · have HD := hide hd
    have HY := hide (tkF_no hd)
    have HI' := hide (show T = (n, (X, Y)) from by rw [HI.out.1, HY.out]; rfl)
    clear hd
    refine wp_block ?_
    refine wp_seq_k ?_
    intro K2 hK2
    refine rg [0, 1, 2, 3, 4, 5, 6, 7, 8] ?_
    refine sq ?_
    refine .r4 hs.g1.f4 ?_
    refine sq ?_
    refine .r4 hs.g2.f4 ?_
    refine sq ?_
    intro K hK
    go_big_op
    go_fit (gExact_rest (.mk' a1 a2) (.mk' hq1 hq2) (by omega) (by omega) (by omega) (by omega) (by have := H0.out.2.2; omega) HD.out)
    rintro e w_5 ⟨rfl, hb_5⟩
    replace hs := hs.bl hb_5
    refine hK _ _ rfl trivial ?_
    clear hK K
    refine sq ?_
    refine .mv ?_
    refine sq ?_
    refine .r0 ?_
    refine sq ?_
    refine .r0 ?_
    refine sq ?_
    refine .al hs ?_; clear hs; intro p_b4 w_6 hs n6 kb_b4
    refine sq ?_
    refine .s4 hs.g0 (fun _ => hs.u0 kb_b4) ?_; clear hs; intro w_7 hs hd7 ho7
    refine sq ?_
    refine .mv ?_
    apply wpSq_end
    refine hK2 _ _ ?_
    refine wp_seq_k ?_
    intro K3 hK3
    refine wp_seq_k ?_
    intro K4 hK4
    refine rg [0, 1] ?_
    refine sq ?_
    refine .mv ?_
    refine sq ?_
    refine .r0 ?_
    apply wpSq_end
    refine hK4 _ _ ?_
    refine ct ?_
    refine wp_seq_k ?_
    intro K5 hK5
    refine wp_region_f4 [(0, false), (1, false), (2, false)] [3] [] (fun _ => default) [99, 0, 99, 99] [] (.c hs.g2 .n) fn fun w_8 n8 => ?_
    replace hs := hs.bl n8
    refine fmv ?_
    refine f4 ?_
    refine fmv ?_
    refine e0 hs ?_; clear hs; intro w_9 hs n9
    refine tl ?_
    refine .s4 hs.g1 (fun _ => hs.u1 kb_b3) ?_ (e := fun _ hs => (And.intro hs.g2 True.intro)); clear hs; intro w_10 hs hd10 ho10
    apply wpTail_end
    refine hK5 _ _ ?_
    refine wp_ret ?_
    try dsimp only [Exit.then, Exit.inBlock]
    obtain ⟨r0_0, r0_1, r0_2, r0_3⟩ := hs.g1.f4
    refine bodyPost_ret (v := (.tuple #[(.int .i64 (n : Int)), (.agg #[.bool an1, .slice ao1 ak1 ac1, .bool an2, .slice ao2 ak2 ac2])])) (by simp [results, Tryz.results14, go_sem, r0_0, r0_1, r0_2, r0_3]) rfl ?_
    have k0_6 := (((((kb hb_5).b n6).o hd7 ho7).b n8).b n9).o hd10 ho10
    replace a1 := a1.k k0_6
    replace a2 := a2.k k0_6
    rw [HI'.out]; exact ⟨_, rfl, .mk' a1 a2, hs.b⟩
end
end Go.Proofs.YthlhekkcjficdaaGreat


/- Lists of factors as Factor builds them. -/
namespace Go.Proofs.YthlhekkcjficdaaGreat
open Go Go.RowKit Dig
set_option linter.unusedVariables false
/-- The factors ps, canonical, as they lie in xs. -/
def FacL (w : World) (xs : List Value) (ps : List (Int × Int × Int)) : Prop :=
  ∃ qs : List Pw, xs = qs.flatMap Pw.cells ∧ qs.map (fun q => (q.x, q.y, q.n)) = ps ∧ ∀ q ∈ qs, PC w (.agg #[.bool q.n1, .slice q.o1 q.k1 q.c1, .bool q.n2, .slice q.o2 q.k2 q.c2]) q.x q.y
theorem FacL.nil (w : World) : FacL w [] [] := ⟨[], rfl, rfl, fun _ h => nomatch h⟩
theorem FacL.k {w w' : World} {xs : List Value} {ps : List (Int × Int × Int)} (h : FacL w xs ps) (k : Kp w w') : FacL w' xs ps := by
  obtain ⟨qs, h1, h2, h3⟩ := h
  exact ⟨qs, h1, h2, fun q hq => (h3 q hq).k k⟩
theorem FacL.snoc {w : World} {xs : List Value} {ps : List (Int × Int × Int)} {c1 c2 c3 c4 : Value} {x y n : Int} (h : FacL w xs ps) (hp : PC w (.agg #[c1, c2, c3, c4]) x y) : FacL w (xs ++ [c1, c2, c3, c4, .int .i64 n]) (ps ++ [(x, y, n)]) := by
  obtain ⟨qs, h1, h2, h3⟩ := h
  obtain ⟨n1, o1, k1, q1, n2, o2, k2, q2, e, z1, z2⟩ := hp
  simp only [Value.agg.injEq, Array.mk.injEq, List.cons.injEq, and_true] at e
  obtain ⟨rfl, rfl, rfl, rfl⟩ := e
  refine ⟨qs ++ [⟨x, y, n, n1, o1, k1, q1, n2, o2, k2, q2⟩], ?_, ?_, ?_⟩
  · rw [List.flatMap_append, h1]; rfl
  · rw [List.map_append, h2]; rfl
  · intro q hq
    rcases List.mem_append.1 hq with hq | hq
    · exact h3 q hq
    · obtain rfl := List.mem_singleton.1 hq
      exact .mk' z1 z2
/-- One prime is taken out. -/
def fcS (a : List (Int × Int × Int) × (Int × Int)) (q : Int × Int) : List (Int × Int × Int) × (Int × Int) :=
  (if 0 < (tkF q.1 q.2 a.2.1 a.2.2).1 then a.1 ++ [(q.1, q.2, ((tkF q.1 q.2 a.2.1 a.2.2).1 : Int))] else a.1, (tkF q.1 q.2 a.2.1 a.2.2).2)
theorem tkO_norm {u v : Int} (h2 : 2 ≤ gN u v) : ∀ (f : Nat) (x y : Int), gN x y ≠ 0 → gN (tkO u v f x y).2.1 (tkO u v f x y).2.2 ≠ 0 ∧ gN (tkO u v f x y).2.1 (tkO u v f x y).2.2 ≤ gN x y := by
  intro f
  induction f with
  | zero => intro x y h; exact ⟨h, Int.le_refl _⟩
  | succ f ih =>
    intro x y h
    unfold tkO
    split
    · rename_i hd
      have hs := gD_small h2 h hd
      have hi := ih _ _ hs.1
      have h0 := gN_nonneg (gD1 x y u v) (gD2 x y u v)
      exact ⟨hi.1, by dsimp only; omega⟩
    · exact ⟨h, Int.le_refl _⟩
theorem tkF_norm {u v x y : Int} (h2 : 2 ≤ gN u v) (h : gN x y ≠ 0) : gN (tkF u v x y).2.1 (tkF u v x y).2.2 ≠ 0 ∧ gN (tkF u v x y).2.1 (tkF u v x y).2.2 ≤ gN x y := tkO_norm h2 _ _ _ h
end Go.Proofs.YthlhekkcjficdaaGreat


/- The reference's root; the numbers of a norm, as a list. -/
namespace Go.Proofs.YthlhekkcjficdaaGreat
open Go Go.RowKit Dig
set_option linter.unusedVariables false

/-- The floor of the square root. -/
def rt : Nat → Nat
  | 0 => 0
  | n + 1 => if (rt n + 1) * (rt n + 1) ≤ n + 1 then rt n + 1 else rt n
theorem rt_spec (n : Nat) : rt n * rt n ≤ n ∧ n < (rt n + 1) * (rt n + 1) := by
  induction n with
  | zero => decide
  | succ n ih =>
    unfold rt
    split
    · rename_i h
      refine ⟨h, ?_⟩
      have : (rt n + 1 + 1) * (rt n + 1 + 1) = (rt n + 1) * (rt n + 1) + 2 * (rt n + 1) + 1 := by grind
      omega
    · rename_i h
      exact ⟨by omega, by omega⟩
theorem sq_lt {a b : Nat} (h : a * a < b * b) : a < b := Nat.lt_of_not_le fun hc => by have := Nat.mul_le_mul hc hc; omega
theorem sq_le2 {a b : Nat} (h : a * a ≤ b * b) : a ≤ b := Nat.le_of_not_lt fun hc => by
  have := Nat.mul_le_mul (show b + 1 ≤ a from hc) (show b + 1 ≤ a from hc)
  have : (b + 1) * (b + 1) = b * b + 2 * b + 1 := by grind
  omega
theorem rt_eq {n r : Nat} (h1 : r * r ≤ n) (h2 : n < (r + 1) * (r + 1)) : rt n = r := by
  have h := rt_spec n
  have a1 := sq_lt (Nat.lt_of_le_of_lt h.1 h2)
  have a2 := sq_lt (Nat.lt_of_le_of_lt h1 h.2)
  omega
theorem rt_sq (r : Nat) : rt (r * r) = r := rt_eq (Nat.le_refl _) (by have : (r + 1) * (r + 1) = r * r + 2 * r + 1 := (by grind); omega)
set_option maxHeartbeats 1000000 in
set_option maxRecDepth 20000 in
theorem root_any (n : Nat) (w : World) (hn : n < 17179869184) :
    Calls Tryz.prog 53 #[.int .i64 (n : Int)] w fun e w' => e = .returned (.int .i64 ((rt n : Nat) : Int)) ∧ w = w' := by
  go_enter Tryz.func53, Tryz.ntmps53
  go_wp2
  go_loopw [3, 4] (fun x y wr => ∃ l h : Nat, x = .int .i64 (l : Int) ∧ y = .int .i64 (h : Int) ∧ l < h ∧ h ≤ 131072 ∧ Hid (l * l ≤ n ∧ n < h * h) ∧ w = wr) (fun x y _ => (intOf y).toNat - (intOf x).toNat)
  case atStart => exact ⟨0, 131072, rfl, rfl, by omega, by omega, hide ⟨by omega, by omega⟩, rfl⟩
  case round =>
    obtain ⟨l, h, rfl, rfl, hlh, hh, HI, rfl⟩ := hrel
    by_cases h1 : 1 < (h : Int) - (l : Int)
    · obtain ⟨m, hm⟩ : ∃ m, (l + h) / 2 = m := ⟨_, rfl⟩
      have hq : ((l : Int) + (h : Int)).tdiv 2 = (m : Int) := by rw [Int.tdiv_eq_ediv_of_nonneg (by omega)]; omega
      have hm2 : l < m ∧ m < h := by omega
      obtain ⟨hm3, hm4⟩ := hm2
      have hp : (m : Int) * (m : Int) = ((m * m : Nat) : Int) := by simp
      have hpb : m * m ≤ 131072 * 131072 := Nat.mul_le_mul (by omega) (by omega)
      by_cases hc : m * m ≤ n
      · have HI' := hide (And.intro hc HI.out.2)
        obtain ⟨q, hqq⟩ : ∃ q, m * m = q := ⟨_, rfl⟩
        rw [hqq] at hp hpb hc
        clear hm HI hqq
        have h5 : ((q : Int) ≤ (n : Int)) = True := by simp; omega
        clear hc
        go_wp2
        go_roundw
        case rel => exact ⟨m, h, rfl, rfl, hm4, hh, HI', trivial⟩
        case measure => simp [intOf]; omega
      · have HI' := hide (And.intro HI.out.1 (Nat.lt_of_not_le hc))
        obtain ⟨q, hqq⟩ : ∃ q, m * m = q := ⟨_, rfl⟩
        rw [hqq] at hp hpb hc
        clear hm HI hqq
        have h5 : ((q : Int) ≤ (n : Int)) = False := by simp; omega
        clear hc
        go_wp2
        go_roundw
        case rel => exact ⟨l, m, rfl, rfl, hm3, by omega, HI', trivial⟩
        case measure => simp [intOf]; omega
    · have hr : rt n = l := by
        obtain rfl : h = l + 1 := by omega
        exact rt_eq HI.out.1 HI.out.2
      go_wp2
      go_ret
      exact ⟨by subst hr; rfl, rfl⟩
/-- The number of norm n with the real part a, if there is one with Re not below Im. -/
def sqAt (n a : Nat) : Option (Int × Int) := if n ≤ 2 * a * a ∧ a * a ≤ n ∧ a * a + rt (n - a * a) * rt (n - a * a) = n then some ((a : Int), (rt (n - a * a) : Int)) else none
def sqs (n : Nat) : Nat → List (Int × Int)
  | 0 => []
  | k + 1 => sqs n k ++ (sqAt n k).toList
theorem sqs_none {n a : Nat} (h : sqAt n a = none) : sqs n (a + 1) = sqs n a := by rw [sqs, h]; simp
theorem sqs_some {n a : Nat} {p : Int × Int} (h : sqAt n a = some p) : sqs n (a + 1) = sqs n a ++ [p] := by rw [sqs, h]; rfl
theorem sqAt_high {n a : Nat} (h : n < a * a) : sqAt n a = none := by unfold sqAt; rw [if_neg]; omega
theorem sqAt_low {n a : Nat} (h : 2 * a * a < n) : sqAt n a = none := by unfold sqAt; rw [if_neg]; omega
theorem sqAt_of {n a b : Nat} (h : a * a + b * b = n) (hb : b ≤ a) : sqAt n a = some ((a : Int), (b : Int)) := by
  have h1 : n - a * a = b * b := by omega
  have h2 := Nat.mul_le_mul hb hb
  unfold sqAt
  rw [h1, rt_sq, if_pos ⟨by rw [Nat.mul_assoc]; omega, by omega, h⟩]
theorem sqAt_get {n a : Nat} {p : Int × Int} (h : sqAt n a = some p) : ∃ b : Nat, p = ((a : Int), (b : Int)) ∧ a * a + b * b = n ∧ b ≤ a := by
  unfold sqAt at h
  split at h
  · rename_i hc
    injection h with h
    refine ⟨_, h.symm, hc.2.2, sq_le2 ?_⟩
    have := hc.1
    rw [Nat.mul_assoc] at this
    omega
  · cases h
theorem sqs_low {n : Nat} : ∀ {k : Nat}, (∀ a, a < k → 2 * a * a < n) → sqs n k = []
  | 0, _ => rfl
  | k + 1, h => by rw [sqs_none (sqAt_low (h k (by omega)))]; exact sqs_low fun a ha => h a (by omega)
/-- All of them. -/
def sqAll (n : Nat) : List (Int × Int) := sqs n (rt n + 1)
theorem sqs_high {n : Nat} : ∀ {d k : Nat}, n < k * k → sqs n (k + d) = sqs n k
  | 0, _, _ => rfl
  | d + 1, k, h => by
    rw [← Nat.add_assoc, sqs_none (sqAt_high (Nat.lt_of_lt_of_le h (Nat.mul_le_mul (by omega) (by omega))))]
    exact sqs_high h
theorem sqs_all {n k : Nat} (h : n < k * k) : sqs n k = sqAll n := by
  have h1 := rt_spec n
  have h2 := sq_lt (Nat.lt_of_le_of_lt h1.1 h)
  obtain ⟨d, rfl⟩ : ∃ d, k = rt n + 1 + d := ⟨k - (rt n + 1), by omega⟩
  exact sqs_high h1.2
end Go.Proofs.YthlhekkcjficdaaGreat


/- A scope through which the run goes forward alone: each goto leads to a label, from which what is left of the scope is walked in its turn. -/
namespace Go.Proofs.YthlhekkcjficdaaGreat
open Go

/-- As Q; by a goto to a label of the scope's body: what stands behind the label, walked with one jump less. -/
def scopeQ (P : Program) (c : Code) (Q : Exit → Act → World → Prop) : Nat → Exit → Act → World → Prop
  | 0, .goto _, _, _ => False
  | n + 1, .goto l, a, w => ∃ rest, findLabel c l = some rest ∧ rest.wp P (scopeQ P c Q n) a w
  | _, e, a, w => Q e a w
theorem scopeQ_goto {P : Program} {c rest : Code} {Q : Exit → Act → World → Prop} {n l : Nat} {a : Act} {w : World} (hf : findLabel c l = some rest) (h : rest.wp P (scopeQ P c Q n) a w) : scopeQ P c Q (n + 1) (.goto l) a w := ⟨rest, hf, h⟩
theorem scopeQ_normal {P : Program} {c : Code} {Q : Exit → Act → World → Prop} {n : Nat} {a : Act} {w : World} (h : Q .normal a w) : scopeQ P c Q n .normal a w := by cases n <;> exact h
theorem scopeQ_ret {P : Program} {c : Code} {Q : Exit → Act → World → Prop} {n : Nat} {a : Act} {w : World} (h : Q .ret a w) : scopeQ P c Q n .ret a w := by cases n <;> exact h
theorem wp_scope_fwd {P : Program} {a : Act} {w : World} {Q : Exit → Act → World → Prop} {c : Code} (n : Nat) (first : c.wp P (scopeQ P c Q n) a w) : (Code.scope c).wp P Q a w := by
  intro b k cs
  have key : ∀ (n : Nat) (d : Code) (a : Act) (w : World), d.wp P (scopeQ P c Q n) a w → ∃ e a' w', Q e a' w' ∧ Arrives P (lone (b.at a (.code d :: .inScope c :: k)) cs w) b k cs e a' w' := by
    intro n
    induction n with
    | zero =>
      intro d a w h
      obtain ⟨e, a₁, w₁, hq, harr⟩ := h b (.inScope c :: k) cs
      cases e with
      | normal => exact ⟨.normal, a₁, w₁, hq, Steps.trans harr (.one step_inScope)⟩
      | exit id => exact ⟨.exit id, a₁, w₁, hq, fun k' hk => harr k' (by simp [exitTo, hk])⟩
      | goto l' => exact hq.elim
      | ret => exact ⟨_, a₁, w₁, hq, harr⟩
      | panic ch => exact ⟨_, a₁, w₁, hq, harr⟩
      | outgrown => exact ⟨_, a₁, w₁, hq, harr⟩
    | succ n ih =>
      intro d a w h
      obtain ⟨e, a₁, w₁, hq, harr⟩ := h b (.inScope c :: k) cs
      cases e with
      | normal => exact ⟨.normal, a₁, w₁, hq, Steps.trans harr (.one step_inScope)⟩
      | exit id => exact ⟨.exit id, a₁, w₁, hq, fun k' hk => harr k' (by simp [exitTo, hk])⟩
      | goto l' =>
        obtain ⟨rest, hf, hr⟩ := hq
        have hg : gotoIn l' (.inScope c :: k) = some (.code rest :: .inScope c :: k) := by simp [gotoIn, hf]
        obtain ⟨e₂, a₂, w₂, hq₂, harr₂⟩ := ih rest a₁ w₁ hr
        exact ⟨e₂, a₂, w₂, hq₂, .of_steps (harr _ hg) harr₂⟩
      | ret => exact ⟨_, a₁, w₁, hq, harr⟩
      | panic ch => exact ⟨_, a₁, w₁, hq, harr⟩
      | outgrown => exact ⟨_, a₁, w₁, hq, harr⟩
  obtain ⟨e, a₁, w₁, hq, harr⟩ := key n c a w first
  cases e with
  | normal => exact ⟨.normal, a₁, w₁, hq, Steps.trans (.one step_scope) harr⟩
  | exit id => exact ⟨.exit id, a₁, w₁, hq, fun k' hk => .head step_scope (harr k' hk)⟩
  | goto l' => exact ⟨.goto l', a₁, w₁, hq, fun k' hk => .head step_scope (harr k' hk)⟩
  | ret => exact ⟨_, a₁, w₁, hq, .of_steps (.one step_scope) harr⟩
  | panic ch => exact ⟨_, a₁, w₁, hq, .of_steps (.one step_scope) harr⟩
  | outgrown => exact ⟨_, a₁, w₁, hq, .of_steps (.one step_scope) harr⟩
/-- The same with what stands at the scope's ways out behind a name: a goto by 'hg', a return by 'hr', its end by 'hn'. -/
theorem wp_scope_k {P : Program} {a : Act} {w : World} {Q : Exit → Act → World → Prop} {c : Code} (n : Nat)
    (first : ∀ S : Nat → Exit → Act → World → Prop, (∀ m a w, Q .ret a w → S m .ret a w) → (∀ m a w, Q .normal a w → S m .normal a w) →
      (∀ m l rest a w, findLabel c l = some rest → rest.wp P (S m) a w → S (m + 1) (.goto l) a w) → c.wp P (S n) a w) : (Code.scope c).wp P Q a w :=
  wp_scope_fwd n (first (scopeQ P c Q) (fun _ _ _ h => scopeQ_ret h) (fun _ _ _ h => scopeQ_normal h) fun _ _ _ _ _ hf h => scopeQ_goto hf h)
end Go.Proofs.YthlhekkcjficdaaGreat


/- gprime.squares. -/
namespace Go.Proofs.YthlhekkcjficdaaGreat
open Go Go.RowKit Dig
set_option linter.unusedVariables false

theorem sq2_bd {r n : Nat} (h : 2 * r * r < n) (hn : n < 4294967296) : r ≤ 46340 := by
  rcases Nat.lt_or_ge r 46341 with h1 | h1
  · omega
  · have := Nat.mul_le_mul h1 h1
    rw [Nat.mul_assoc] at h
    omega
section
variable {w : World}
set_option maxHeartbeats 4000000 in
set_option maxRecDepth 20000 in
theorem squares_any (n : Nat) (hn : n < 4294967296) :
    Calls Tryz.prog 35 #[.int .u64 (n : Int)] w fun e w' => ∃ o c xs, e = .returned (.slice o (sqAll n).length c) ∧ Lst w' w.heap.size 26 4 (.slice o (sqAll n).length c) (sqAll n).length xs ∧ GD w' xs (sqAll n) ∧ Below w.heap.size w w' := by
  go_enter Tryz.func35, Tryz.ntmps35
  have hs := St.nil w
  refine wp_seq_k ?_
  intro K1 hK1
  refine rg [0] ?_
  refine sq ?_
  refine .mv ?_
  apply wpSq_end
  refine hK1 _ _ ?_
  refine wp_scope_k 9 ?_
  intro S hSr hSn hSg
  refine wp_seq_k ?_
  intro K2 hK2
  refine rg [0] ?_
  refine sq ?_
  refine .mv ?_
  apply wpSq_end
  refine hK2 _ _ ?_
  refine wp_seq_k ?_
  intro K3 hK3
  refine wp_block ?_
  have hd1 := hs.2.1
  go_loopg [3] 46342 (fun k s3 wr => ∃ r : Nat, s3 = .int .u64 (r : Int) ∧ r + k = 46342 ∧ Hid (∀ a, a < r → 2 * a * a < n) ∧ St w [] wr)
  case atStart => exact ⟨0, rfl, rfl, hide (fun a h => absurd h (Nat.not_lt_zero _)), hs⟩
  case round =>
  clear hs
  obtain ⟨r, rfl, hrk, HI, hs⟩ := hrel
  have hp : 2 * (r : Int) * (r : Int) = ((2 * r * r : Nat) : Int) := by simp
  by_cases h2 : 2 * r * r < n
  · have hr := sq2_bd h2 hn
    have HI' := hide (show ∀ a, a < r + 1 → 2 * a * a < n from fun a ha => by
      rcases Nat.lt_or_ge a r with h | h
      · exact HI.out a h
      · obtain rfl : a = r := by omega
        exact h2)
    clear HI
    generalize 2 * r * r = q at *
    have h5 : ((q : Int) < (n : Int)) = True := by simp; omega
    refine wp_seq_k ?_
    intro K4 hK4
    refine wp_seq_k ?_
    intro K5 hK5
    refine rg [0, 1, 2, 3, 4, 5] ?_
    refine sq ?_
    refine .mv ?_
    refine sq ?_
    refine .r0 ?_
    refine sq ?_
    refine .mv ?_
    refine sq ?_
    refine .r0 ?_
    refine sq ?_
    refine .mv ?_
    refine sq ?_
    refine .r0 ?_
    apply wpSq_end
    refine hK5 _ _ ?_
    refine ct ?_
    refine wp_skip ?_
    refine hK4 _ _ ?_
    refine wp_block ?_
    refine rg [0, 1, 2] ?_
    refine sq ?_
    refine .mv ?_
    refine sq ?_
    refine .r0 ?_
    refine sq ?_
    refine .mv ?_
    apply wpSq_end
    refine ‹∀ (a' : Act) (w' : World), Handed _ _ a' w' → _› _ _ ?_
    go_roundg (gk - 1)
    case rel => exact ⟨r + 1, by rfl, by omega, HI', hs⟩
    case measure => omega
  · have hr2 : 2 * r * r ≤ 17179869184 := by rw [Nat.mul_assoc]; have := Nat.mul_le_mul (show r ≤ 46342 by omega) (show r ≤ 46342 by omega); omega
    have HL := hide (sqs_low HI.out)
    have HM := hide (show ∀ a b : Nat, r ≤ a → a * a + b * b = n → b ≤ a → b ≤ r from fun a b ha hab hba => by
      rcases Nat.lt_or_ge r b with h | h
      · have h3 := Nat.mul_le_mul h h
        have h4 := Nat.mul_le_mul (show r + 1 ≤ a by omega) (show r + 1 ≤ a by omega)
        have h5 : (r + 1) * (r + 1) = r * r + 2 * r + 1 := by grind
        rw [Nat.mul_assoc] at h2
        simp only [Nat.succ_eq_add_one] at h3
        omega
      · exact h)
    generalize 2 * r * r = q at *
    have h5 : ((q : Int) < (n : Int)) = False := by simp; omega
    have hr3 : r ≤ 46342 := by omega
    clear HI hrk
    refine wp_seq_k ?_
    intro K4 hK4
    refine wp_seq_k ?_
    intro K5 hK5
    refine rg [0, 1, 2, 3, 4, 5] ?_
    refine sq ?_
    refine .mv ?_
    refine sq ?_
    refine .r0 ?_
    refine sq ?_
    refine .mv ?_
    refine sq ?_
    refine .r0 ?_
    refine sq ?_
    refine .mv ?_
    refine sq ?_
    refine .r0 ?_
    apply wpSq_end
    refine hK5 _ _ ?_
    refine cf ?_
    refine wp_exit ?_
    refine hK3 _ _ ?_
    refine wp_seq_k ?_
    intro K6 hK6
    refine rg [0, 1] ?_
    refine sq ?_
    refine .mv ?_
    refine sq ?_
    refine .mv ?_
    apply wpSq_end
    refine hK6 _ _ ?_
    refine wp_seq_k ?_
    intro K7 hK7
    refine rg [0] ?_
    refine sq ?_
    refine .mv ?_
    apply wpSq_end
    refine hK7 _ _ ?_
    refine wp_seq_k ?_
    intro K8 hK8
    refine wp_label ?_
    refine hK8 _ _ ?_
    refine wp_seq_k ?_
    intro K9 hK9
    refine wp_block ?_
    have hd2 := hs.2.1
    go_loopg [3, 4, 5] 65537 (fun k s3 s4 s5 wr => ∃ (r m N : Nat) (o : Option Addr) (c : Nat) (xs : List Value) (L : List (Int × Int)), s3 = .int .u64 (r : Int) ∧ s4 = .int .u64 (m : Int) ∧ s5 = .slice o N c ∧ r + k = 65537 + m ∧ m ≤ r ∧ r ≤ 65536 ∧ N ≤ r ∧ Hid (L = sqs n r ∧ N = L.length ∧ ∀ a b : Nat, r ≤ a → a * a + b * b = n → b ≤ a → b ≤ m) ∧ GD wr xs L ∧ St w [ls w.heap.size 26 4 (.slice o N c) N xs] wr)
    case atStart => exact ⟨r, r, 0, none, 0, [], [], rfl, rfl, rfl, by omega, Nat.le_refl _, by omega, by omega, hide ⟨HL.out.symm, rfl, HM.out⟩, GD.nil _, hs.l0 _ _⟩
    case round =>
    clear h5 h2 hp
    clear hs
    obtain ⟨r, m, N, o, c, xs, L, rfl, rfl, rfl, hrk, hmr, hr, hN, HI, d, hs⟩ := hrel
    have hp1 : (r : Int) * (r : Int) = ((r * r : Nat) : Int) := by simp
    have hp2 : (m : Int) * (m : Int) = ((m * m : Nat) : Int) := by simp
    have hb1 : r * r ≤ 4294967296 := Nat.mul_le_mul hr hr
    have hb2 : m * m ≤ 4294967296 := Nat.mul_le_mul (Nat.le_trans hmr hr) (Nat.le_trans hmr hr)
    by_cases h3 : r * r + m * m < n
    · have HN := hide (sqs_none (n := n) (a := r) (by
        cases e : sqAt n r with
        | none => rfl
        | some p =>
          have hb := hs.b
          obtain ⟨b, hp, hb, hbr⟩ := sqAt_get e
          have h4 := HI.out.2.2 r b (Nat.le_refl _) hb hbr
          have := Nat.mul_le_mul h4 h4
          omega))
      have HI' := hide (show L = sqs n (r + 1) ∧ N = L.length ∧ ∀ a b : Nat, r + 1 ≤ a → a * a + b * b = n → b ≤ a → b ≤ m from ⟨by rw [HN.out]; exact HI.out.1, HI.out.2.1, fun a b ha => HI.out.2.2 a b (by omega)⟩)
      have hr65 : r ≤ 65535 := by
        rcases Nat.lt_or_ge r 65536 with h | h
        · omega
        · have := Nat.mul_le_mul h h; omega
      clear HI HN
      generalize r * r = q1 at *
      generalize m * m = q2 at *
      have h5 : ((q1 : Int) + (q2 : Int) < (n : Int)) = True := by simp; omega
      refine wp_block ?_
      refine wp_seq_k ?_
      intro K10 hK10
      refine rg [0, 1, 2, 3, 4, 5, 6, 7] ?_
      refine sq ?_
      refine .mv ?_
      refine sq ?_
      refine .mv ?_
      refine sq ?_
      refine .r0 ?_
      refine sq ?_
      refine .mv ?_
      refine sq ?_
      refine .mv ?_
      refine sq ?_
      refine .r0 ?_
      refine sq ?_
      refine .r0 ?_
      refine sq ?_
      refine .mv ?_
      apply wpSq_end
      refine hK10 _ _ ?_
      refine wp_block ?_
      refine wp_seq_k ?_
      intro K11 hK11
      refine rg [0, 1, 2, 3] ?_
      refine sq ?_
      refine .mv ?_
      refine sq ?_
      refine .mv ?_
      refine sq ?_
      refine .r0 ?_
      refine sq ?_
      refine .mv ?_
      apply wpSq_end
      refine hK11 _ _ ?_
      refine ct ?_
      refine rg [0, 1, 2] ?_
      refine sq ?_
      refine .mv ?_
      refine sq ?_
      refine .r0 ?_
      refine sq ?_
      refine .mv ?_
      apply wpSq_end
      refine ‹∀ (a' : Act) (w' : World), Handed _ _ a' w' → _› _ _ ?_
      go_roundg (gk - 1)
      case rel => exact ⟨r + 1, m, N, o, c, xs, L, by rfl, by rfl, by rfl, by omega, by omega, by omega, by omega, HI', d, hs⟩
      case measure => omega
    · by_cases h4 : r * r + m * m = n
      · have HA := hide (sqAt_of h4 hmr)
        have HI' := hide (show L ++ [((r : Int), (m : Int))] = sqs n (r + 1) ∧ N + 1 = (L ++ [((r : Int), (m : Int))]).length ∧ ∀ a b : Nat, r + 1 ≤ a → a * a + b * b = n → b ≤ a → b ≤ m from ⟨by rw [sqs_some HA.out, HI.out.1], by rw [List.length_append, HI.out.2.1]; rfl, fun a b ha => HI.out.2.2 a b (by omega)⟩)
        have hr65 : r ≤ 65536 := hr
        have hr66 : r + 1 ≤ 65536 := by
          rcases Nat.lt_or_ge r 65536 with h | h
          · exact h
          · have := Nat.mul_le_mul h h; omega
        clear HI HA
        generalize r * r = q1 at *
        generalize m * m = q2 at *
        have h5 : ((q1 : Int) + (q2 : Int) < (n : Int)) = False := by simp; omega
        have h6 : ((q1 : Int) + (q2 : Int) == (n : Int)) = true := by simp; omega
        refine wp_block ?_
        refine wp_seq_k ?_
        intro K10 hK10
        refine rg [0, 1, 2, 3, 4, 5, 6, 7] ?_
        refine sq ?_
        refine .mv ?_
        refine sq ?_
        refine .mv ?_
        refine sq ?_
        refine .r0 ?_
        refine sq ?_
        refine .mv ?_
        refine sq ?_
        refine .mv ?_
        refine sq ?_
        refine .r0 ?_
        refine sq ?_
        refine .r0 ?_
        refine sq ?_
        refine .mv ?_
        apply wpSq_end
        refine hK10 _ _ ?_
        refine wp_block ?_
        refine wp_seq_k ?_
        intro K11 hK11
        refine rg [0, 1, 2, 3] ?_
        refine sq ?_
        refine .mv ?_
        refine sq ?_
        refine .mv ?_
        refine sq ?_
        refine .r0 ?_
        refine sq ?_
        refine .mv ?_
        apply wpSq_end
        refine hK11 _ _ ?_
        refine cf ?_
        refine wp_seq_k ?_
        intro K12 hK12
        refine rg [0, 1, 2, 3] ?_
        refine sq ?_
        refine .mv ?_
        refine sq ?_
        refine .mv ?_
        refine sq ?_
        refine .r0 ?_
        refine sq ?_
        refine .mv ?_
        apply wpSq_end
        refine hK12 _ _ ?_
        refine ct ?_
        refine wp_seq_k ?_
        intro K13 hK13
        refine rg [0, 1, 2, 3, 4, 5, 6, 7, 8] ?_
        refine sq ?_
        refine .mv ?_
        refine sq ?_
        refine .mv ?_
        refine sq ?_
        refine .r0 ?_
        refine sq ?_
        refine .mv ?_
        refine sq ?_
        refine .r0 ?_
        refine sq ?_
        intro K hK
        go_big_op
        go_fit (gFrom_any (r : Int) (m : Int) _ (by omega) (by omega) (by omega) (by omega))
        rintro e w_3 ⟨_, rfl, ⟨n_ea, o_ea, k_ea, c_ea, n_eb, o_eb, k_eb, c_eb, rfl, e1, e2⟩, hb_3⟩
        replace hs := hs.bl hb_3
        refine hK _ _ rfl trivial ?_
        clear hK K
        refine sq ?_
        refine .al hs ?_; clear hs; intro p_b1 w_4 hs n4 kb_b1
        refine sq ?_
        have k1_2 := kb n4
        replace e1 := e1.k k1_2
        replace e2 := e2.k k1_2
        have k0_2 := (kb hb_3).b n4
        replace d := d.k k0_2
        replace d := d.snoc (.mk' e1 e2)
        refine .ap 1 hs hs.g0 ?_; clear hs; intro o_L_5 c_L_5 w_5 hs kp5 hw5; simp only [List.set_cons_succ, List.set_cons_zero] at hs
        refine sq ?_
        refine .mv ?_
        apply wpSq_end
        refine hK13 _ _ ?_
        refine rg [0, 1, 2] ?_
        refine sq ?_
        refine .mv ?_
        refine sq ?_
        refine .r0 ?_
        refine sq ?_
        refine .mv ?_
        apply wpSq_end
        have k2_3 := kp5
        replace d := d.k k2_3
        refine ‹∀ (a' : Act) (w' : World), Handed _ _ a' w' → _› _ _ ?_
        go_roundg (gk - 1)
        case rel => exact ⟨r + 1, m, N + 1, _, _, _, _, by rfl, by rfl, by rfl, by omega, by omega, by omega, by omega, HI', d, hs.sub (.cons _ (.cons_cons _ .slnil))⟩
        case measure => omega
      · have hlt : n < r * r + m * m := by omega
        by_cases h0 : 0 < m
        · have HI' := hide (show L = sqs n r ∧ N = L.length ∧ ∀ a b : Nat, r ≤ a → a * a + b * b = n → b ≤ a → b ≤ m - 1 from ⟨HI.out.1, HI.out.2.1, fun a b ha hab hba => by
            have h7 := HI.out.2.2 a b ha hab hba
            rcases Nat.lt_or_ge b m with h8 | h8
            · omega
            · obtain rfl : b = m := by omega
              have := Nat.mul_le_mul ha ha
              omega⟩)
          clear HI
          generalize r * r = q1 at *
          generalize m * m = q2 at *
          have h5 : ((q1 : Int) + (q2 : Int) < (n : Int)) = False := by simp; omega
          have h6 : ((q1 : Int) + (q2 : Int) == (n : Int)) = false := by simp; omega
          have h7 : ((0 : Int) < (m : Int)) = True := by simp; omega
          refine wp_block ?_
          refine wp_seq_k ?_
          intro K10 hK10
          refine rg [0, 1, 2, 3, 4, 5, 6, 7] ?_
          refine sq ?_
          refine .mv ?_
          refine sq ?_
          refine .mv ?_
          refine sq ?_
          refine .r0 ?_
          refine sq ?_
          refine .mv ?_
          refine sq ?_
          refine .mv ?_
          refine sq ?_
          refine .r0 ?_
          refine sq ?_
          refine .r0 ?_
          refine sq ?_
          refine .mv ?_
          apply wpSq_end
          refine hK10 _ _ ?_
          refine wp_block ?_
          refine wp_seq_k ?_
          intro K11 hK11
          refine rg [0, 1, 2, 3] ?_
          refine sq ?_
          refine .mv ?_
          refine sq ?_
          refine .mv ?_
          refine sq ?_
          refine .r0 ?_
          refine sq ?_
          refine .mv ?_
          apply wpSq_end
          refine hK11 _ _ ?_
          refine cf ?_
          refine wp_seq_k ?_
          intro K12 hK12
          refine rg [0, 1, 2, 3] ?_
          refine sq ?_
          refine .mv ?_
          refine sq ?_
          refine .mv ?_
          refine sq ?_
          refine .r0 ?_
          refine sq ?_
          refine .mv ?_
          apply wpSq_end
          refine hK12 _ _ ?_
          refine cf ?_
          refine wp_seq_k ?_
          intro K13 hK13
          refine rg [0, 1, 2] ?_
          refine sq ?_
          refine .mv ?_
          refine sq ?_
          refine .r0 ?_
          refine sq ?_
          refine .mv ?_
          apply wpSq_end
          refine hK13 _ _ ?_
          refine ct ?_
          refine rg [0, 1, 2] ?_
          refine sq ?_
          refine .mv ?_
          refine sq ?_
          refine .r0 ?_
          refine sq ?_
          refine .mv ?_
          apply wpSq_end
          refine ‹∀ (a' : Act) (w' : World), Handed _ _ a' w' → _› _ _ ?_
          go_roundg (gk - 1)
          case rel => exact ⟨r, m - 1, N, o, c, xs, L, by rfl, by go_num, by rfl, by omega, by omega, by omega, by omega, HI', d, hs⟩
          case measure => omega
        · obtain rfl : m = 0 := by omega
          have HE := hide (show sqs n r = sqAll n from sqs_all (by omega))
          have HI' := hide (show L = sqAll n ∧ N = L.length from ⟨HI.out.1.trans HE.out, HI.out.2.1⟩)
          clear HI HE
          generalize r * r = q1 at *
          have h5 : ((q1 : Int) < (n : Int)) = False := by simp; omega
          have h6 : ((q1 : Int) == (n : Int)) = false := by simp; omega
          refine wp_block ?_
          refine wp_seq_k ?_
          intro K10 hK10
          refine rg [0, 1, 2, 3, 4, 5, 6, 7] ?_
          refine sq ?_
          refine .mv ?_
          refine sq ?_
          refine .mv ?_
          refine sq ?_
          refine .r0 ?_
          refine sq ?_
          refine .mv ?_
          refine sq ?_
          refine .mv ?_
          refine sq ?_
          refine .r0 ?_
          refine sq ?_
          refine .r0 ?_
          refine sq ?_
          refine .mv ?_
          apply wpSq_end
          refine hK10 _ _ ?_
          refine wp_block ?_
          refine wp_seq_k ?_
          intro K11 hK11
          refine rg [0, 1, 2, 3] ?_
          refine sq ?_
          refine .mv ?_
          refine sq ?_
          refine .mv ?_
          refine sq ?_
          refine .r0 ?_
          refine sq ?_
          refine .mv ?_
          apply wpSq_end
          refine hK11 _ _ ?_
          refine cf ?_
          refine wp_seq_k ?_
          intro K12 hK12
          refine rg [0, 1, 2, 3] ?_
          refine sq ?_
          refine .mv ?_
          refine sq ?_
          refine .mv ?_
          refine sq ?_
          refine .r0 ?_
          refine sq ?_
          refine .mv ?_
          apply wpSq_end
          refine hK12 _ _ ?_
          refine cf ?_
          refine wp_seq_k ?_
          intro K13 hK13
          refine rg [0, 1, 2] ?_
          refine sq ?_
          refine .mv ?_
          refine sq ?_
          refine .r0 ?_
          refine sq ?_
          refine .mv ?_
          apply wpSq_end
          refine hK13 _ _ ?_
          refine cf ?_
          refine wp_exit ?_
          refine hK9 _ _ ?_
          refine wp_seq_k ?_
          intro K14 hK14
          refine rg [0, 1] ?_
          refine sq ?_
          refine .mv ?_
          refine sq ?_
          refine .mv ?_
          apply wpSq_end
          refine hK14 _ _ ?_
          refine wp_ret ?_
          refine hSr _ _ _ ?_
          try dsimp only [Exit.then, Exit.inBlock]
          refine bodyPost_ret (v := (.slice o N c)) (by simp [results, Tryz.results35, go_sem]) rfl ?_
          obtain ⟨rfl, rfl⟩ := HI'.out; exact ⟨_, _, _, rfl, hs.1.1.1, d, hs.b⟩
end
end Go.Proofs.YthlhekkcjficdaaGreat


/- The law's list, is; gprime.Squares; the reference's Squares. -/
namespace Go.Proofs.YthlhekkcjficdaaGreat
open Go Go.RowKit Dig
set_option linter.unusedVariables false

section
variable {w : World} {va vb : Value} {x y z : Int} {l m : Nat}
set_option maxHeartbeats 4000000 in
set_option maxRecDepth 20000 in
theorem g6is_any (ha : PC w va x y) (hq : PN w vb x l y m) (hl : l ≤ 100000000) (hm : m ≤ 100000000) :
    Calls Tryz.prog 9 #[va, vb] w fun e w' => e = .returned (.bool true) ∧ Below w.heap.size w w' := by
  obtain ⟨n_0a, o_0a, k_0a, c_0a, n_0b, o_0b, k_0b, c_0b, rfl, ha1, ha2⟩ := ha
  obtain ⟨n_1a, o_1a, k_1a, c_1a, n_1b, o_1b, k_1b, c_1b, rfl, hq1, hq2⟩ := hq
  go_enter Tryz.func9, Tryz.ntmps9
  have hs := St.nil w
  refine wp_seq_k ?_
  intro K1 hK1
  refine rg [0, 1, 2] ?_
  refine sq ?_
  refine .al hs ?_; clear hs; intro p_b1 w_1 hs n1 kb_b1
  refine sq ?_
  refine .al hs ?_; clear hs; intro p_b2 w_2 hs n2 kb_b2
  refine sq ?_
  refine .mv ?_
  apply wpSq_end
  refine hK1 _ _ ?_
  refine wp_seq_k ?_
  intro K2 hK2
  refine rg [0, 1, 2, 3] ?_
  refine sq ?_
  refine .r4 hs.g1.f4 ?_
  refine sq ?_
  refine .r4 hs.g0.f4 ?_
  refine sq ?_
  intro K hK
  have k0_2 := (kb n1).b n2
  replace ha1 := ha1.k k0_2
  replace ha2 := ha2.k k0_2
  replace hq1 := hq1.k k0_2
  replace hq2 := hq2.k k0_2
  go_big_op
  go_fit (rgSame_any (PC.mk' ha1 ha2) (PN.mk' hq1 hq2) (by omega) (by omega) )
  rintro e w_3 ⟨rfl, hb_3⟩
  replace hs := hs.bl hb_3
  refine hK _ _ rfl trivial ?_
  clear hK K
  refine sq ?_
  refine .mv ?_
  apply wpSq_end
  refine hK2 _ _ ?_
  refine wp_ret ?_
  try dsimp only [Exit.then, Exit.inBlock]
  refine bodyPost_ret (v := (.bool true)) (by simp [results, Tryz.results9, go_sem]) rfl ?_
  exact ⟨rfl, hs.b⟩
end
end Go.Proofs.YthlhekkcjficdaaGreat

