/- gres.answer: what a call tells, or the error that is thrown within it. -/
import Derived.Test.YtpdfahompajbjaaH2ToH3
import Derived.Test.YtpdfahompajbjaaG15ToH2a

namespace Go.Proofs.Ytpdfahompajbjaa
open Go Go.RowKit Dig
set_option maxHeartbeats 4000000
set_option maxRecDepth 20000
set_option linter.unusedVariables false
theorem ansG_ok {w : World} {f : Nat} {caps : Array Value} {x y : Int} (hf : ∀ w1, Sem.run Try.prog (callFunc f caps) w1 = .ok (.enter f caps) w1) (hc : ∀ w1, Below w.heap.size w w1 → Calls Try.prog f caps w1 fun e w2 => ∃ r, e = .returned r ∧ PC w2 r x y ∧ Below w1.heap.size w1 w2) :
    Calls Try.prog 28 #[.func (.func f) #[] caps] w fun e w' => ∃ r, e = .returned (.tuple #[r, .int .i64 0]) ∧ PC w' r x y ∧ Below w.heap.size w w' := by
  have hmf : ∀ (fn : Fn) (first cap : Array Value) (w : World), (Instr.makeFunc fn first cap).run Try.prog w = .ok (.func fn first cap) w := fun _ _ _ _ => rfl
  go_enter_defers Try.func28, Try.ntmps28
  have hb := Below.refl w.heap.size w
  refine wp_seq_k ?_
  intro K1 hK1
  refine wp_region_sq [0, 1] (by kernel_rfl) ?_
  refine sc fun K hK => ?_
  go_big_op
  obtain ⟨p_b1, w_1, eP, eW, x_b1, hn, kb_b1⟩ := newBox w #[.bool false, .slice none 0 0, .bool false, .slice none 0 0] 26 hb.size
  rw [eW, eP]
  clear eW eP
  replace hb := tm hb hn
  refine hK _ _ rfl ?_; clear hK K hn
  refine sc fun K hK => ?_
  go_big_op
  have lt_b1 := x_b1.lt
  obtain ⟨p_b2, w_2, eP, eW, x_b2, hn, kb_b2⟩ := newBox w_1 #[.int .i64 0] 27 hb.size
  have ne_b1_b2 : Hid (p_b1 ≠ p_b2) := Nat.ne_of_lt (eP ▸ lt_b1)
  rw [eW, eP]
  clear eW eP lt_b1
  replace x_b1 := x_b1.bl hn
  replace hb := tm hb hn
  refine hK _ _ rfl ?_; clear hK K hn
  apply wpSq_end
  refine hK1 _ _ ?_
  clear hK1 K1
  refine wp_seq_k ?_
  intro K2 hK2
  refine wp_region ?_
  simp [wpOps, go_sem]
  refine Or.inl (Or.inl ?_)
  refine hK2 _ _ ?_
  clear hK2 K2
  refine wp_seq_k ?_
  intro K3 hK3
  refine wp_region_sq [0, 1, 2, 3] (by kernel_rfl) ?_
  refine sc fun K hK => ?_
  go_big_move; refine hK _ _ rfl ?_; clear hK K
  refine sc fun K hK => ?_
  go_big_op
  go_fit (hc _ hb)
  rintro e w_3 ⟨_, rfl, ⟨n_ga, o_ga, k_ga, c_ga, n_gb, o_gb, k_gb, c_gb, rfl, g1, g2⟩, hb_3⟩
  replace x_b1 := x_b1.bl hb_3; replace x_b2 := x_b2.bl hb_3; replace hb := tm hb hb_3
  refine hK _ _ rfl ?_
  clear hK K hb_3
  refine sc fun K hK => ?_
  obtain ⟨d0, d1, d2, d3⟩ := x_b1.f4
  have f0 := x_b1.free 0; have f1 := x_b1.free 1; have f2 := x_b1.free 2; have f3 := x_b1.free 3
  go_big_op
  have hnd := x_b1.nod rfl rfl
  obtain ⟨w_4, eW, x_b1', ho⟩ : ∃ w', ((((w_3.setCell ⟨p_b1, 0, none⟩ (.bool n_ga)).setCell ⟨p_b1, 1, none⟩ (.slice o_ga k_ga c_ga)).setCell ⟨p_b1, 2, none⟩ (.bool n_gb)).setCell ⟨p_b1, 3, none⟩ (.slice o_gb k_gb c_gb)) = w' ∧ Bs w' p_b1 #[.bool n_ga, .slice o_ga k_ga c_ga, .bool n_gb, .slice o_gb k_gb c_gb] 26 ∧ Only p_b1 w_3 w' := x_b1.setN [(0, .bool n_ga), (1, .slice o_ga k_ga c_ga), (2, .bool n_gb), (3, .slice o_gb k_gb c_gb)]
  rw [eW]; clear eW d0 d1 d2 d3 f0 f1 f2 f3 x_b1
  replace x_b2 := x_b2.frame' ho ne_b1_b2; replace g1 := g1.fr hnd ho; replace g2 := g2.fr hnd ho; replace hb := belowOnly hb ho kb_b1
  refine hK _ _ rfl ?_; clear hK K ho hnd
  refine sc fun K hK => ?_
  have d0 := x_b2.f1
  have f0 := x_b2.free 0
  go_big_op
  have hnd := x_b2.nod rfl rfl
  obtain ⟨w_5, eW, x_b2', ho⟩ : ∃ w', (w_4.setCell ⟨p_b2, 0, none⟩ (.int .i64 0)) = w' ∧ Bs w' p_b2 #[.int .i64 0] 27 ∧ Only p_b2 w_4 w' := x_b2.setN [(0, .int .i64 0)]
  rw [eW]; clear eW d0 f0 x_b2
  replace x_b1' := x_b1'.frame ho ne_b1_b2; replace g1 := g1.fr hnd ho; replace g2 := g2.fr hnd ho; replace hb := belowOnly hb ho kb_b2
  refine hK _ _ rfl ?_; clear hK K ho hnd
  apply wpSq_end
  refine hK3 _ _ ?_
  refine wp_ret ?_
  try dsimp only [Exit.then, Exit.inBlock]
  refine leaves_cons (f := 61) (args := #[.pointer (some ⟨p_b2, 0, none⟩)]) (by simp) (by simp [go_sem]) ?_
  refine (catchG_idle p_b2 _).mono ?_
  rintro e u' w'' ⟨rfl, rfl, rfl⟩
  obtain ⟨d0, d1, d2, d3⟩ := x_b1'.f4
  have d4 := x_b2'.f1
  simp only [Leaves, settle]
  exact ⟨_, by simp [results, Try.results28, go_sem, d0, d1, d2, d3, d4], _, rfl, .mk' g1 g2, hb⟩
theorem ansG_bad {w : World} {f : Nat} {caps : Array Value} {k : Int} (hf : ∀ w1, Sem.run Try.prog (callFunc f caps) w1 = .ok (.enter f caps) w1) (hc : ∀ w1, Below w.heap.size w w1 → Calls Try.prog f caps w1 fun e w2 => e = .panicked [{ v := .iface 27 (.int .i64 k), recovered := false }] ∧ Below w1.heap.size w1 w2) :
    Calls Try.prog 28 #[.func (.func f) #[] caps] w fun e w' => e = .returned (.tuple #[.agg #[.bool false, .slice none 0 0, .bool false, .slice none 0 0], .int .i64 k]) ∧ Below w.heap.size w w' := by
  have hmf : ∀ (fn : Fn) (first cap : Array Value) (w : World), (Instr.makeFunc fn first cap).run Try.prog w = .ok (.func fn first cap) w := fun _ _ _ _ => rfl
  go_enter_defers Try.func28, Try.ntmps28
  have hb := Below.refl w.heap.size w
  refine wp_seq_k ?_
  intro K1 hK1
  refine wp_region_sq [0, 1] (by kernel_rfl) ?_
  refine sc fun K hK => ?_
  go_big_op
  obtain ⟨p_b1, w_1, eP, eW, x_b1, hn, kb_b1⟩ := newBox w #[.bool false, .slice none 0 0, .bool false, .slice none 0 0] 26 hb.size
  rw [eW, eP]
  clear eW eP
  replace hb := tm hb hn
  refine hK _ _ rfl ?_; clear hK K hn
  refine sc fun K hK => ?_
  go_big_op
  have lt_b1 := x_b1.lt
  obtain ⟨p_b2, w_2, eP, eW, x_b2, hn, kb_b2⟩ := newBox w_1 #[.int .i64 0] 27 hb.size
  have ne_b1_b2 : Hid (p_b1 ≠ p_b2) := Nat.ne_of_lt (eP ▸ lt_b1)
  rw [eW, eP]
  clear eW eP lt_b1
  replace x_b1 := x_b1.bl hn
  replace hb := tm hb hn
  refine hK _ _ rfl ?_; clear hK K hn
  apply wpSq_end
  refine hK1 _ _ ?_
  clear hK1 K1
  refine wp_seq_k ?_
  intro K2 hK2
  refine wp_region ?_
  simp [wpOps, go_sem]
  refine Or.inl (Or.inl ?_)
  refine hK2 _ _ ?_
  clear hK2 K2
  refine wp_seq_k ?_
  intro K3 hK3
  refine wp_region ?_
  simp [wpOps, go_sem, hf]
  refine Or.inl (Or.inl ?_)
  go_fit (hc _ hb)
  rintro e w_3 ⟨rfl, hb_3⟩
  replace x_b1 := x_b1.bl hb_3; replace x_b2 := x_b2.bl hb_3; replace hb := tm hb hb_3
  try dsimp only [Exit.then, Exit.inBlock]
  refine leaves_cons (f := 61) (args := #[.pointer (some ⟨p_b2, 0, none⟩)]) (by simp) (by simp [go_sem]) ?_
  refine (catchG_panicking p_b2 0 k _ x_b2).mono ?_
  rintro e u' w'' ⟨rfl, rfl, rfl⟩
  obtain ⟨w_5, eW, x_b2', ho⟩ : ∃ w', (w_3.setCell ⟨p_b2, 0, none⟩ (.int .i64 k)) = w' ∧ Bs w' p_b2 #[.int .i64 k] 27 ∧ Only p_b2 w_3 w' := x_b2.setN [(0, .int .i64 k)]
  rw [eW]; clear eW x_b2
  replace x_b1 := x_b1.frame ho ne_b1_b2; replace hb := belowOnly hb ho kb_b2
  obtain ⟨d0, d1, d2, d3⟩ := x_b1.f4
  have d4 := x_b2'.f1
  simp [Leaves, settle, results, Try.results28, go_sem, d0, d1, d2, d3, d4]
  exact hb
end Go.Proofs.Ytpdfahompajbjaa

/- gres: Reduce, Mul, Inverse: what lies within. -/
namespace Go.Proofs.Ytpdfahompajbjaa
open Go Go.RowKit Dig
set_option linter.unusedVariables false
def BP (w : World) (p : Nat) (x : Int) (l : Nat) (y : Int) (m : Nat) : Prop :=
  ∃ n1 o1 k1 c1 n2 o2 k2 c2, Bs w p #[.bool n1, .slice o1 k1 c1, .bool n2, .slice o2 k2 c2] 26 ∧ ZN w (.agg #[.bool n1, .slice o1 k1 c1]) x l ∧ ZN w (.agg #[.bool n2, .slice o2 k2 c2]) y m
theorem BP.mk' {w : World} {p : Nat} {n1 n2 : Bool} {o1 o2 : Option Addr} {k1 c1 k2 c2 : Nat} {x y : Int} {l m : Nat} (hb : Bs w p #[.bool n1, .slice o1 k1 c1, .bool n2, .slice o2 k2 c2] 26) (h1 : ZN w (.agg #[.bool n1, .slice o1 k1 c1]) x l) (h2 : ZN w (.agg #[.bool n2, .slice o2 k2 c2]) y m) : BP w p x l y m :=
  ⟨_, _, _, _, _, _, _, _, hb, h1, h2⟩
section
variable {w : World} {va vb : Value} {x y u v : Int} {l m k n : Nat}
end
end Go.Proofs.Ytpdfahompajbjaa

/- gres.inverse: where there is none; closures and calls of Reduce, Mul, Inverse. -/
namespace Go.Proofs.Ytpdfahompajbjaa
open Go Go.RowKit Dig
set_option maxHeartbeats 4000000
set_option maxRecDepth 20000
set_option linter.unusedVariables false
section
variable {w : World} {va vb vc : Value} {x y u v a b : Int} {l m k n s t : Nat}
theorem reduce1_any {p q L : Nat} (hp : BP w p x l y m) (hq : BP w q u L v L) (hl : l ≤ 9000000) (hm : m ≤ 9000000) (hk : L ≤ 4500000) (h0 : gN u v ≠ 0) :
    Calls Try.prog 29 #[.pointer (some ⟨p, 0, none⟩), .pointer (some ⟨q, 0, none⟩)] w fun e w' => ∃ r, e = .returned r ∧ PC w' r (gR1 x y u v) (gR2 x y u v) ∧ Below w.heap.size w w' := by
  have H0 := hide h0
  clear h0
  obtain ⟨an1, ao1, ak1, ac1, an2, ao2, ak2, ac2, xa, a1, a2⟩ := hp
  obtain ⟨bn1, bo1, bk1, bc1, bn2, bo2, bk2, bc2, xb, b1, b2⟩ := hq
  go_enter Try.func29, Try.ntmps29
  have hb := Below.refl w.heap.size w
  refine wp_seq_k ?_
  intro K1 hK1
  refine wp_region_sq [0] (by kernel_rfl) ?_
  refine sc fun K hK => ?_
  go_big_op
  have lt_xa := xa.lt
  have lt_xb := xb.lt
  obtain ⟨p_b1, w_1, eP, eW, x_b1, hn, kb_b1⟩ := newBox w #[.bool false, .slice none 0 0, .bool false, .slice none 0 0] 26 hb.size
  rw [eW, eP]
  clear eW eP lt_xa lt_xb
  replace xa := xa.bl hn; replace a1 := a1.bl hn; replace a2 := a2.bl hn; replace xb := xb.bl hn; replace b1 := b1.bl hn; replace b2 := b2.bl hn; replace hb := tm hb hn
  refine hK _ _ rfl ?_; clear hK K hn
  apply wpSq_end
  refine hK1 _ _ ?_
  refine wp_seq_k ?_
  intro K2 hK2
  refine wp_region_sq [0, 1, 2, 3] (by kernel_rfl) ?_
  refine sc fun K hK => ?_
  obtain ⟨d0, d1, d2, d3⟩ := xa.f4
  go_big_op; refine hK _ _ rfl ?_; clear hK K d0 d1 d2 d3
  refine sc fun K hK => ?_
  obtain ⟨d0, d1, d2, d3⟩ := xb.f4
  go_big_op; refine hK _ _ rfl ?_; clear hK K d0 d1 d2 d3
  refine sc fun K hK => ?_
  go_big_op
  go_fit (res_any (PN.mk' a1 a2) (PN.mk' b1 b2) (by omega) (by omega) (by omega) H0.out)
  rintro e w_2 ⟨_, rfl, ⟨n_ra, o_ra, k_ra, c_ra, n_rb, o_rb, k_rb, c_rb, rfl, r1, r2⟩, hb_2⟩
  clear xa xb
  replace a1 := a1.bl hb_2; replace a2 := a2.bl hb_2; replace b1 := b1.bl hb_2; replace b2 := b2.bl hb_2; replace x_b1 := x_b1.bl hb_2; replace hb := tm hb hb_2
  refine hK _ _ rfl ?_
  clear hK K hb_2
  refine sc fun K hK => ?_
  obtain ⟨d0, d1, d2, d3⟩ := x_b1.f4
  have f0 := x_b1.free 0; have f1 := x_b1.free 1; have f2 := x_b1.free 2; have f3 := x_b1.free 3
  go_big_op
  have hnd := x_b1.nod rfl rfl
  obtain ⟨w_3, eW, x_b1', ho⟩ : ∃ w', ((((w_2.setCell ⟨p_b1, 0, none⟩ (.bool n_ra)).setCell ⟨p_b1, 1, none⟩ (.slice o_ra k_ra c_ra)).setCell ⟨p_b1, 2, none⟩ (.bool n_rb)).setCell ⟨p_b1, 3, none⟩ (.slice o_rb k_rb c_rb)) = w' ∧ Bs w' p_b1 #[.bool n_ra, .slice o_ra k_ra c_ra, .bool n_rb, .slice o_rb k_rb c_rb] 26 ∧ Only p_b1 w_2 w' := x_b1.setN [(0, .bool n_ra), (1, .slice o_ra k_ra c_ra), (2, .bool n_rb), (3, .slice o_rb k_rb c_rb)]
  rw [eW]; clear eW d0 d1 d2 d3 f0 f1 f2 f3 x_b1
  have x_b1 := x_b1'; clear x_b1'
  clear a1 a2 b1 b2
  replace r1 := r1.fr hnd ho; replace r2 := r2.fr hnd ho; replace hb := belowOnly hb ho kb_b1
  refine hK _ _ rfl ?_; clear hK K ho hnd
  apply wpSq_end
  refine hK2 _ _ ?_
  refine wp_ret ?_
  try dsimp only [Exit.then, Exit.inBlock]
  obtain ⟨r0_0, r0_1, r0_2, r0_3⟩ := x_b1.f4
  refine bodyPost_ret (v := (.agg #[.bool n_ra, .slice o_ra k_ra c_ra, .bool n_rb, .slice o_rb k_rb c_rb])) (by simp [results, Try.results29, go_sem, r0_0, r0_1, r0_2, r0_3]) rfl ?_
  exact ⟨_, rfl, .mk' r1 r2, hb⟩
theorem reduce1_zero {p q : Nat} (hp : BP w p x l y m) (hq : BP w q 0 k 0 n) (hl : l ≤ 9000000) (hm : m ≤ 9000000) (hk : k ≤ 4500000) (hn : n ≤ 4500000) :
    Calls Try.prog 29 #[.pointer (some ⟨p, 0, none⟩), .pointer (some ⟨q, 0, none⟩)] w fun e w' => e = .panicked [{ v := .iface 27 (.int .i64 5), recovered := false }] ∧ Below w.heap.size w w' := by
  obtain ⟨an1, ao1, ak1, ac1, an2, ao2, ak2, ac2, xa, a1, a2⟩ := hp
  obtain ⟨bn1, bo1, bk1, bc1, bn2, bo2, bk2, bc2, xb, b1, b2⟩ := hq
  go_enter Try.func29, Try.ntmps29
  have hb := Below.refl w.heap.size w
  obtain ⟨IX, hIX⟩ : ∃ I : Pn.PX, ∀ ch w', I.X ch w' ↔ (ch = [{ v := .iface 27 (.int .i64 5), recovered := false }] ∧ Below w.heap.size w w') := ⟨⟨_⟩, fun _ _ => Iff.rfl⟩
  refine wp_seq_k ?_
  intro K1 hK1
  refine Pn.wp_region_sq [0] (fun ch a' w' hd hx => And.intro hd (And.intro (congrArg Ending.panicked ((hIX ch w').1 hx).1) ((hIX ch w').1 hx).2)) (by kernel_rfl) ?_
  refine Pn.wpSq_call rfl (by kernel_rfl) fun K hK => ?_
  go_big_op
  have lt_xa := xa.lt
  have lt_xb := xb.lt
  obtain ⟨p_b1, w_1, eP, eW, x_b1, hn, kb_b1⟩ := newBox w #[.bool false, .slice none 0 0, .bool false, .slice none 0 0] 26 hb.size
  rw [eW, eP]
  clear eW eP lt_xa lt_xb
  replace xa := xa.bl hn; replace a1 := a1.bl hn; replace a2 := a2.bl hn; replace xb := xb.bl hn; replace b1 := b1.bl hn; replace b2 := b2.bl hn; replace hb := tm hb hn
  refine hK _ _ rfl ?_; clear hK K hn
  apply Pn.wpSq_end
  refine hK1 _ _ ?_
  refine wp_seq_k ?_
  intro K2 hK2
  refine Pn.wp_region_sq [0, 1, 2, 3] (fun ch a' w' hd hx => And.intro hd (And.intro (congrArg Ending.panicked ((hIX ch w').1 hx).1) ((hIX ch w').1 hx).2)) (by kernel_rfl) ?_
  refine Pn.wpSq_call rfl (by kernel_rfl) fun K hK => ?_
  obtain ⟨d0, d1, d2, d3⟩ := xa.f4
  go_big_op; refine hK _ _ rfl ?_; clear hK K d0 d1 d2 d3
  refine Pn.wpSq_call rfl (by kernel_rfl) fun K hK => ?_
  obtain ⟨d0, d1, d2, d3⟩ := xb.f4
  go_big_op; refine hK _ _ rfl ?_; clear hK K d0 d1 d2 d3
  refine Pn.wpSq_call rfl (by kernel_rfl) fun K hK => ?_
  clear hK
  go_big_op
  go_fit (res_zero (.mk' a1 a2) (.mk' b1 b2) hl hm hk hn)
  rintro e w_2 ⟨rfl, hb_2⟩
  exact (hIX _ _).2 ⟨rfl, tm hb hb_2⟩
theorem gReduce_any {L : Nat} (ha : PN w va x l y m) (hq : PN w vb u L v L) (hl : l ≤ 9000000) (hm : m ≤ 9000000) (hk : L ≤ 4500000) (h0 : gN u v ≠ 0) :
    Calls Try.prog 5 #[va, vb] w fun e w' => ∃ r, e = .returned (.tuple #[r, .int .i64 0]) ∧ PC w' r (gR1 x y u v) (gR2 x y u v) ∧ Below w.heap.size w w' := by
  have H0 := hide h0
  clear h0
  obtain ⟨n_0a, o_0a, k_0a, c_0a, n_0b, o_0b, k_0b, c_0b, rfl, ha1, ha2⟩ := ha
  obtain ⟨n_1a, o_1a, k_1a, c_1a, n_1b, o_1b, k_1b, c_1b, rfl, hq1, hq2⟩ := hq
  go_enter Try.func5, Try.ntmps5
  have hb := Below.refl w.heap.size w
  refine wp_seq_k ?_
  intro K1 hK1
  refine wp_region_sq [0, 1, 2, 3] (by kernel_rfl) ?_
  refine sc fun K hK => ?_
  go_big_op
  obtain ⟨p_b1, w_1, eP, eW, x_b1, hn, kb_b1⟩ := newBox w #[.bool n_0a, .slice o_0a k_0a c_0a, .bool n_0b, .slice o_0b k_0b c_0b] 26 hb.size
  rw [eW, eP]
  clear eW eP
  replace ha1 := ha1.bl hn; replace ha2 := ha2.bl hn; replace hq1 := hq1.bl hn; replace hq2 := hq2.bl hn; replace hb := tm hb hn
  refine hK _ _ rfl ?_; clear hK K hn
  refine sc fun K hK => ?_
  go_big_op
  have lt_b1 := x_b1.lt
  obtain ⟨p_b2, w_2, eP, eW, x_b2, hn, kb_b2⟩ := newBox w_1 #[.bool n_1a, .slice o_1a k_1a c_1a, .bool n_1b, .slice o_1b k_1b c_1b] 26 hb.size
  rw [eW, eP]
  clear eW eP lt_b1
  replace ha1 := ha1.bl hn; replace ha2 := ha2.bl hn; replace hq1 := hq1.bl hn; replace hq2 := hq2.bl hn; replace x_b1 := x_b1.bl hn; replace hb := tm hb hn
  refine hK _ _ rfl ?_; clear hK K hn
  refine sc fun K hK => ?_
  go_big_op
  have lt_b1 := x_b1.lt
  obtain ⟨p_b3, w_3, eP, eW, x_b3, hn, kb_b3⟩ := newBox w_2 #[.bool false, .slice none 0 0, .bool false, .slice none 0 0] 26 hb.size
  rw [eW, eP]
  clear eW eP lt_b1
  replace ha1 := ha1.bl hn; replace ha2 := ha2.bl hn; replace hq1 := hq1.bl hn; replace hq2 := hq2.bl hn; replace x_b1 := x_b1.bl hn; replace x_b2 := x_b2.bl hn; replace hb := tm hb hn
  refine hK _ _ rfl ?_; clear hK K hn
  refine sc fun K hK => ?_
  go_big_move; refine hK _ _ rfl ?_; clear hK K
  apply wpSq_end
  refine hK1 _ _ ?_
  refine wp_seq_k ?_
  intro K2 hK2
  refine wp_region_sq [0, 1, 2, 3, 4, 5] (by kernel_rfl) ?_
  refine sc fun K hK => ?_
  go_big_op; refine hK _ _ rfl ?_; clear hK K
  refine sc fun K hK => ?_
  go_big_op
  go_fit (ansG_ok (fun _ ↦ by kernel_rfl) (fun w1 h ↦ reduce1_any (.mk' (x_b1.bl h) (ha1.bl h) (ha2.bl h)) (.mk' (x_b2.bl h) (hq1.bl h) (hq2.bl h)) hl hm hk H0.out))
  rintro e w_4 ⟨_, rfl, ⟨n_ra, o_ra, k_ra, c_ra, n_rb, o_rb, k_rb, c_rb, rfl, r1, r2⟩, hb_4⟩
  replace ha1 := ha1.bl hb_4; replace ha2 := ha2.bl hb_4; replace hq1 := hq1.bl hb_4; replace hq2 := hq2.bl hb_4; replace x_b1 := x_b1.bl hb_4; replace x_b2 := x_b2.bl hb_4; replace x_b3 := x_b3.bl hb_4; replace hb := tm hb hb_4
  refine hK _ _ rfl ?_
  clear hK K hb_4
  refine sc fun K hK => ?_
  go_big_op; refine hK _ _ rfl ?_; clear hK K
  refine sc fun K hK => ?_
  go_big_op; refine hK _ _ rfl ?_; clear hK K
  refine sc fun K hK => ?_
  obtain ⟨d0, d1, d2, d3⟩ := x_b3.f4
  have f0 := x_b3.free 0; have f1 := x_b3.free 1; have f2 := x_b3.free 2; have f3 := x_b3.free 3
  go_big_op
  have hnd := x_b3.nod rfl rfl
  obtain ⟨w_5, eW, x_b3', ho⟩ : ∃ w', ((((w_4.setCell ⟨p_b3, 0, none⟩ (.bool n_ra)).setCell ⟨p_b3, 1, none⟩ (.slice o_ra k_ra c_ra)).setCell ⟨p_b3, 2, none⟩ (.bool n_rb)).setCell ⟨p_b3, 3, none⟩ (.slice o_rb k_rb c_rb)) = w' ∧ Bs w' p_b3 #[.bool n_ra, .slice o_ra k_ra c_ra, .bool n_rb, .slice o_rb k_rb c_rb] 26 ∧ Only p_b3 w_4 w' := x_b3.setN [(0, .bool n_ra), (1, .slice o_ra k_ra c_ra), (2, .bool n_rb), (3, .slice o_rb k_rb c_rb)]
  rw [eW]; clear eW d0 d1 d2 d3 f0 f1 f2 f3 x_b3
  have x_b3 := x_b3'; clear x_b3'
  clear ha1 ha2 hq1 hq2 x_b1 x_b2
  replace r1 := r1.fr hnd ho; replace r2 := r2.fr hnd ho; replace hb := belowOnly hb ho kb_b3
  refine hK _ _ rfl ?_; clear hK K ho hnd
  refine sc fun K hK => ?_
  go_big_move; refine hK _ _ rfl ?_; clear hK K
  apply wpSq_end
  refine hK2 _ _ ?_
  refine wp_ret ?_
  try dsimp only [Exit.then, Exit.inBlock]
  obtain ⟨r0_0, r0_1, r0_2, r0_3⟩ := x_b3.f4
  refine bodyPost_ret (v := (.tuple #[(.agg #[.bool n_ra, .slice o_ra k_ra c_ra, .bool n_rb, .slice o_rb k_rb c_rb]), (.int .i64 0)])) (by simp [results, Try.results5, go_sem, r0_0, r0_1, r0_2, r0_3]) rfl ?_
  exact ⟨_, rfl, .mk' r1 r2, hb⟩
theorem gReduce_zero (ha : PN w va x l y m) (hq : PN w vb 0 k 0 n) (hl : l ≤ 9000000) (hm : m ≤ 9000000) (hk : k ≤ 4500000) (hn : n ≤ 4500000) :
    Calls Try.prog 5 #[va, vb] w fun e w' => e = .returned (.tuple #[.agg #[.bool false, .slice none 0 0, .bool false, .slice none 0 0], .int .i64 5]) ∧ Below w.heap.size w w' := by
  obtain ⟨n_0a, o_0a, k_0a, c_0a, n_0b, o_0b, k_0b, c_0b, rfl, ha1, ha2⟩ := ha
  obtain ⟨n_1a, o_1a, k_1a, c_1a, n_1b, o_1b, k_1b, c_1b, rfl, hq1, hq2⟩ := hq
  go_enter Try.func5, Try.ntmps5
  have hb := Below.refl w.heap.size w
  refine wp_seq_k ?_
  intro K1 hK1
  refine wp_region_sq [0, 1, 2, 3] (by kernel_rfl) ?_
  refine sc fun K hK => ?_
  go_big_op
  obtain ⟨p_b1, w_1, eP, eW, x_b1, hn, kb_b1⟩ := newBox w #[.bool n_0a, .slice o_0a k_0a c_0a, .bool n_0b, .slice o_0b k_0b c_0b] 26 hb.size
  rw [eW, eP]
  clear eW eP
  replace ha1 := ha1.bl hn; replace ha2 := ha2.bl hn; replace hq1 := hq1.bl hn; replace hq2 := hq2.bl hn; replace hb := tm hb hn
  refine hK _ _ rfl ?_; clear hK K hn
  refine sc fun K hK => ?_
  go_big_op
  have lt_b1 := x_b1.lt
  obtain ⟨p_b2, w_2, eP, eW, x_b2, hn, kb_b2⟩ := newBox w_1 #[.bool n_1a, .slice o_1a k_1a c_1a, .bool n_1b, .slice o_1b k_1b c_1b] 26 hb.size
  rw [eW, eP]
  clear eW eP lt_b1
  replace ha1 := ha1.bl hn; replace ha2 := ha2.bl hn; replace hq1 := hq1.bl hn; replace hq2 := hq2.bl hn; replace x_b1 := x_b1.bl hn; replace hb := tm hb hn
  refine hK _ _ rfl ?_; clear hK K hn
  refine sc fun K hK => ?_
  go_big_op
  have lt_b1 := x_b1.lt
  obtain ⟨p_b3, w_3, eP, eW, x_b3, hn, kb_b3⟩ := newBox w_2 #[.bool false, .slice none 0 0, .bool false, .slice none 0 0] 26 hb.size
  rw [eW, eP]
  clear eW eP lt_b1
  replace ha1 := ha1.bl hn; replace ha2 := ha2.bl hn; replace hq1 := hq1.bl hn; replace hq2 := hq2.bl hn; replace x_b1 := x_b1.bl hn; replace x_b2 := x_b2.bl hn; replace hb := tm hb hn
  refine hK _ _ rfl ?_; clear hK K hn
  refine sc fun K hK => ?_
  go_big_move; refine hK _ _ rfl ?_; clear hK K
  apply wpSq_end
  refine hK1 _ _ ?_
  refine wp_seq_k ?_
  intro K2 hK2
  refine wp_region_sq [0, 1, 2, 3, 4, 5] (by kernel_rfl) ?_
  refine sc fun K hK => ?_
  go_big_op; refine hK _ _ rfl ?_; clear hK K
  refine sc fun K hK => ?_
  go_big_op
  go_fit (ansG_bad (fun _ ↦ by kernel_rfl) (fun w1 h ↦ reduce1_zero (.mk' (x_b1.bl h) (ha1.bl h) (ha2.bl h)) (.mk' (x_b2.bl h) (hq1.bl h) (hq2.bl h)) hl hm hk hn))
  rintro e w_4 ⟨rfl, hb_4⟩
  replace ha1 := ha1.bl hb_4; replace ha2 := ha2.bl hb_4; replace hq1 := hq1.bl hb_4; replace hq2 := hq2.bl hb_4; replace x_b1 := x_b1.bl hb_4; replace x_b2 := x_b2.bl hb_4; replace x_b3 := x_b3.bl hb_4; replace hb := tm hb hb_4
  refine hK _ _ rfl ?_
  clear hK K hb_4
  refine sc fun K hK => ?_
  go_big_op; refine hK _ _ rfl ?_; clear hK K
  refine sc fun K hK => ?_
  go_big_op; refine hK _ _ rfl ?_; clear hK K
  refine sc fun K hK => ?_
  obtain ⟨d0, d1, d2, d3⟩ := x_b3.f4
  have f0 := x_b3.free 0; have f1 := x_b3.free 1; have f2 := x_b3.free 2; have f3 := x_b3.free 3
  go_big_op
  have hnd := x_b3.nod rfl rfl
  obtain ⟨w_5, eW, x_b3', ho⟩ : ∃ w', ((((w_4.setCell ⟨p_b3, 0, none⟩ (.bool false)).setCell ⟨p_b3, 1, none⟩ (.slice none 0 0)).setCell ⟨p_b3, 2, none⟩ (.bool false)).setCell ⟨p_b3, 3, none⟩ (.slice none 0 0)) = w' ∧ Bs w' p_b3 #[.bool false, .slice none 0 0, .bool false, .slice none 0 0] 26 ∧ Only p_b3 w_4 w' := x_b3.setN [(0, .bool false), (1, .slice none 0 0), (2, .bool false), (3, .slice none 0 0)]
  rw [eW]; clear eW d0 d1 d2 d3 f0 f1 f2 f3 x_b3
  have x_b3 := x_b3'; clear x_b3'
  clear ha1 ha2 hq1 hq2 x_b1 x_b2
  replace hb := belowOnly hb ho kb_b3
  refine hK _ _ rfl ?_; clear hK K ho hnd
  refine sc fun K hK => ?_
  go_big_move; refine hK _ _ rfl ?_; clear hK K
  apply wpSq_end
  refine hK2 _ _ ?_
  refine wp_ret ?_
  try dsimp only [Exit.then, Exit.inBlock]
  obtain ⟨r0_0, r0_1, r0_2, r0_3⟩ := x_b3.f4
  refine bodyPost_ret (v := (.tuple #[(.agg #[.bool false, .slice none 0 0, .bool false, .slice none 0 0]), (.int .i64 5)])) (by simp [results, Try.results5, go_sem, r0_0, r0_1, r0_2, r0_3]) rfl ?_
  exact ⟨rfl, hb⟩
end
end Go.Proofs.Ytpdfahompajbjaa

/- gres.power. -/
namespace Go.Proofs.Ytpdfahompajbjaa
open Go Go.RowKit Dig
set_option maxHeartbeats 8000000
set_option maxRecDepth 20000
set_option linter.unusedVariables false
theorem u32_and_one (n : Int) : bits .and .u32 n 1 = n % 2 := by
  have h1 : (BitVec.ofInt 32 1).toNat = 2 ^ 1 - 1 := by decide
  have key : (BitVec.ofInt 32 n &&& BitVec.ofInt 32 1).toNat = (n % ((2 ^ 32 : Nat) : Int)).toNat % 2 ^ 1 := by
    rw [BitVec.toNat_and, BitVec.toNat_ofInt, h1, Nat.and_two_pow_sub_one_eq_mod]
  show IntKind.u32.wrap ((BitVec.ofInt 32 n &&& BitVec.ofInt 32 1).toNat : Nat) = n % 2
  rw [key, IntKind.wrap_u32]
  omega
section
variable {w : World} {va vb vn : Value} {x y u v z : Int} {l m k n s : Nat}
theorem power_any {L : Nat} (ha : PN w va x l y m) (hx : ZN w vn z s) (hq : PN w vb u L v L) (hl : l ≤ 2200000) (hm : m ≤ 2200000) (hs : s ≤ 2200000) (hL : L ≤ 1100000) (h0 : gN u v ≠ 0) (hz : 0 ≤ z) :
    Calls Try.prog 34 #[va, vn, vb] w fun e w' => ∃ r, e = .returned r ∧ PC w' r (pR1 x y u v z.natAbs) (pR2 x y u v z.natAbs) ∧ Below w.heap.size w w' := by
  have H0 := hide h0
  have hsg : (z.sign < 0) = False := eq_false (by have := Int.sign_nonneg_iff.2 hz; omega)
  have LB := (show bitsN z.natAbs ≤ 32 * s from bits_bd (Nat.lt_of_lt_of_le (lt_pw_dig z.natAbs) (pw_mono hx.len)))
  obtain ⟨B, hB⟩ : ∃ B, bitsN z.natAbs = B := ⟨_, rfl⟩
  rw [hB] at LB
  have HB := hide hB
  have EZ := hide (show z.natAbs / 2 ^ B = 0 by rw [← hB]; exact Nat.div_eq_of_lt (bitsN_lt _))
  have LP := hide (fun e => (⟨res_len1 h0 hq.len1 hq.len2, res_len2 h0 hq.len1 hq.len2⟩ : (dig (pR1 x y u v e).natAbs).length ≤ L + 1 ∧ (dig (pR2 x y u v e).natAbs).length ≤ L + 1))
  have LA := hide (res_len (x := x) (y := y) h0 hq.len1 hq.len2)
  clear h0 hz hB
  obtain ⟨n_0a, o_0a, k_0a, c_0a, n_0b, o_0b, k_0b, c_0b, rfl, ha1, ha2⟩ := ha
  obtain ⟨n_1, o_1, k_1, c_1, rfl⟩ := hx.open2
  obtain ⟨n_2a, o_2a, k_2a, c_2a, n_2b, o_2b, k_2b, c_2b, rfl, hq1, hq2⟩ := hq
  go_enter Try.func34, Try.ntmps34
  have hb := Below.refl w.heap.size w
  refine wp_seq_k ?_
  intro K1 hK1
  refine wp_region_sq [0, 1, 2, 3] (by kernel_rfl) ?_
  refine sc fun K hK => ?_
  go_big_op
  obtain ⟨p_b1, w_1, eP, eW, x_b1, hn, kb_b1⟩ := newBox w #[.bool n_0a, .slice o_0a k_0a c_0a, .bool n_0b, .slice o_0b k_0b c_0b] 26 hb.size
  rw [eW, eP]
  clear eW eP
  replace ha1 := ha1.bl hn; replace ha2 := ha2.bl hn; replace hx := hx.bl hn; replace hq1 := hq1.bl hn; replace hq2 := hq2.bl hn; replace hb := tm hb hn
  refine hK _ _ rfl ?_; clear hK K hn
  refine sc fun K hK => ?_
  go_big_op
  have lt_b1 := x_b1.lt
  obtain ⟨p_b2, w_2, eP, eW, x_b2, hn, kb_b2⟩ := newBox w_1 #[.bool n_1, .slice o_1 k_1 c_1] 24 hb.size
  rw [eW, eP]
  clear eW eP lt_b1
  replace ha1 := ha1.bl hn; replace ha2 := ha2.bl hn; replace hx := hx.bl hn; replace hq1 := hq1.bl hn; replace hq2 := hq2.bl hn; replace x_b1 := x_b1.bl hn; replace hb := tm hb hn
  refine hK _ _ rfl ?_; clear hK K hn
  refine sc fun K hK => ?_
  go_big_op
  have lt_b1 := x_b1.lt
  have lt_b2 := x_b2.lt
  obtain ⟨p_b3, w_3, eP, eW, x_b3, hn, kb_b3⟩ := newBox w_2 #[.bool n_2a, .slice o_2a k_2a c_2a, .bool n_2b, .slice o_2b k_2b c_2b] 26 hb.size
  rw [eW, eP]
  clear eW eP lt_b1 lt_b2
  replace ha1 := ha1.bl hn; replace ha2 := ha2.bl hn; replace hx := hx.bl hn; replace hq1 := hq1.bl hn; replace hq2 := hq2.bl hn; replace x_b1 := x_b1.bl hn; replace x_b2 := x_b2.bl hn; replace hb := tm hb hn
  refine hK _ _ rfl ?_; clear hK K hn
  refine sc fun K hK => ?_
  go_big_op
  have lt_b1 := x_b1.lt
  have lt_b2 := x_b2.lt
  have lt_b3 := x_b3.lt
  obtain ⟨p_b4, w_4, eP, eW, x_b4, hn, kb_b4⟩ := newBox w_3 #[.bool false, .slice none 0 0, .bool false, .slice none 0 0] 26 hb.size
  have ne_b2_b4 : Hid (p_b2 ≠ p_b4) := Nat.ne_of_lt (eP ▸ lt_b2)
  have ne_b3_b4 : Hid (p_b3 ≠ p_b4) := Nat.ne_of_lt (eP ▸ lt_b3)
  rw [eW, eP]
  clear eW eP lt_b1 lt_b2 lt_b3
  replace ha1 := ha1.bl hn; replace ha2 := ha2.bl hn; replace hx := hx.bl hn; replace hq1 := hq1.bl hn; replace hq2 := hq2.bl hn; replace x_b1 := x_b1.bl hn; replace x_b2 := x_b2.bl hn; replace x_b3 := x_b3.bl hn; replace hb := tm hb hn
  refine hK _ _ rfl ?_; clear hK K hn
  apply wpSq_end
  refine hK1 _ _ ?_
  refine wp_seq_k ?_
  intro K2 hK2
  refine wp_region_fl2 [(0, false), (1, false), (3, false), (2, true), (4, true)] [7, 8] [5, 6] (fun j => if j = 5 then (.cells #[.bool false, .slice none 0 0, .bool false, .slice none 0 0] 26) else (.cells #[.bool false, .slice none 0 0, .bool false, .slice none 0 0] 26)) [0, 1, 99, 1, 99, 99, 99, 99, 99] [] (fun w' => w'.cell? ⟨p_b1, 0, none⟩ = some (.bool n_0a) ∧ w'.cell? ⟨p_b1, 1, none⟩ = some (.slice o_0a k_0a c_0a) ∧ w'.cell? ⟨p_b1, 2, none⟩ = some (.bool n_0b) ∧ w'.cell? ⟨p_b1, 3, none⟩ = some (.slice o_0b k_0b c_0b) ∧ w'.cell? ⟨p_b3, 0, none⟩ = some (.bool n_2a) ∧ w'.cell? ⟨p_b3, 1, none⟩ = some (.slice o_2a k_2a c_2a) ∧ w'.cell? ⟨p_b3, 2, none⟩ = some (.bool n_2b) ∧ w'.cell? ⟨p_b3, 3, none⟩ = some (.slice o_2b k_2b c_2b)) [fun w' => w'.cell? ⟨p_b1, 0, none⟩ = some (.bool n_0a) ∧ w'.cell? ⟨p_b1, 1, none⟩ = some (.slice o_0a k_0a c_0a) ∧ w'.cell? ⟨p_b1, 2, none⟩ = some (.bool n_0b) ∧ w'.cell? ⟨p_b1, 3, none⟩ = some (.slice o_0b k_0b c_0b), fun w' => w'.cell? ⟨p_b3, 0, none⟩ = some (.bool n_2a) ∧ w'.cell? ⟨p_b3, 1, none⟩ = some (.slice o_2a k_2a c_2a) ∧ w'.cell? ⟨p_b3, 2, none⟩ = some (.bool n_2b) ∧ w'.cell? ⟨p_b3, 3, none⟩ = some (.slice o_2b k_2b c_2b)] (by kernel_rfl) (by kernel_rfl) (by kernel_rfl) (by kernel_rfl) (by kernel_rfl) (by kernel_rfl) (by kernel_rfl) (by kernel_rfl) (by decide) (by intro j hj; simp only [List.mem_cons, List.not_mem_nil, or_false] at hj; rcases hj with rfl | rfl; all_goals exact ⟨_, rfl, rfl, fun ρ w => by unfold ptr; simp [go_sem]⟩) (by intro w' o hC; obtain ⟨c0, c1, c2, c3, c4, c5, c6, c7⟩ := hC; exact ⟨cell_alloc c0 o, cell_alloc c1 o, cell_alloc c2 o, cell_alloc c3 o, cell_alloc c4 o, cell_alloc c5 o, cell_alloc c6 o, cell_alloc c7 o⟩) (by intro w' hC G hG; obtain ⟨c0, c1, c2, c3, c4, c5, c6, c7⟩ := hC; simp only [List.mem_cons, List.not_mem_nil, or_false] at hG; rcases hG with rfl | rfl <;> first | exact ⟨c0, c1, c2, c3⟩ | exact ⟨c4, c5, c6, c7⟩) ?_
  have lt_b1 := x_b1.lt
  have lt_b2 := x_b2.lt
  have lt_b3 := x_b3.lt
  have lt_b4 := x_b4.lt
  intro w_5 hn
  replace lt_b1 := Nat.lt_of_lt_of_le lt_b1 hn.size
  replace lt_b2 := Nat.lt_of_lt_of_le lt_b2 hn.size
  replace lt_b3 := Nat.lt_of_lt_of_le lt_b3 hn.size
  replace lt_b4 := Nat.lt_of_lt_of_le lt_b4 hn.size
  replace ha1 := ha1.bl hn; replace ha2 := ha2.bl hn; replace hx := hx.bl hn; replace hq1 := hq1.bl hn; replace hq2 := hq2.bl hn; replace x_b1 := x_b1.bl hn; replace x_b2 := x_b2.bl hn; replace x_b3 := x_b3.bl hn; replace x_b4 := x_b4.bl hn; replace hb := tm hb hn
  clear hn
  have kb0 := hb.size
  refine ⟨⟨x_b1.cell 0 rfl, x_b1.cell 1 rfl, x_b1.cell 2 rfl, x_b1.cell 3 rfl, x_b3.cell 0 rfl, x_b3.cell 1 rfl, x_b3.cell 2 rfl, x_b3.cell 3 rfl⟩, ?_⟩
  apply wpFl_ld rfl rfl; (case h1 => intro w' hC K hK; obtain ⟨c0, c1, c2, c3⟩ := hC; go_big_op; exact hK); iterate 4 kernel_rfl
  apply wpFl_ld rfl rfl; (case h1 => intro w' hC K hK; obtain ⟨c0, c1, c2, c3⟩ := hC; go_big_op; exact hK); iterate 4 kernel_rfl
  apply wpFl_ld rfl rfl; (case h1 => intro w' hC K hK; obtain ⟨c0, c1, c2, c3⟩ := hC; go_big_op; exact hK); iterate 4 kernel_rfl
  refine wpFl_call rfl (by kernel_rfl) fun w_6 hn hC => ?_; clear hC
  replace ha1 := ha1.bl hn; replace ha2 := ha2.bl hn; replace hx := hx.bl hn; replace hq1 := hq1.bl hn; replace hq2 := hq2.bl hn; replace x_b1 := x_b1.bl hn; replace x_b2 := x_b2.bl hn; replace x_b3 := x_b3.bl hn; replace x_b4 := x_b4.bl hn; replace hb := tm hb hn
  clear hn; intro K hK
  go_big_op
  go_fit (res_any (PN.mk' ha1 ha2) (PN.mk' hq1 hq2) (by omega) (by omega) (by omega) H0.out)
  rintro e w_7 ⟨_, rfl, ⟨n_ra, o_ra, k_ra, c_ra, n_rb, o_rb, k_rb, c_rb, rfl, r1, r2⟩, hb_7⟩
  replace ha1 := ha1.bl hb_7; replace ha2 := ha2.bl hb_7; replace hx := hx.bl hb_7; replace hq1 := hq1.bl hb_7; replace hq2 := hq2.bl hb_7; replace x_b1 := x_b1.bl hb_7; replace x_b2 := x_b2.bl hb_7; replace x_b3 := x_b3.bl hb_7; replace x_b4 := x_b4.bl hb_7; replace hb := tm hb hb_7
  have Lr1 := hide (r1.lenOf (res_len1 (H0.out) (hq1.len) (hq2.len)))
  have Lr2 := hide (r2.lenOf (res_len2 (H0.out) (hq1.len) (hq2.len)))
  refine hK _ _ rfl hb_7 ⟨x_b1.cell 0 rfl, x_b1.cell 1 rfl, x_b1.cell 2 rfl, x_b1.cell 3 rfl, x_b3.cell 0 rfl, x_b3.cell 1 rfl, x_b3.cell 2 rfl, x_b3.cell 3 rfl⟩ ?_
  clear hK K hb_7
  have Lr1 := hide (r1.lenOf (LA.out.1))
  have Lr2 := hide (r2.lenOf (LA.out.2))
  refine wpFl_call rfl (by kernel_rfl) fun w_8 hn hC => ?_; clear hC
  replace ha1 := ha1.bl hn; replace ha2 := ha2.bl hn; replace hx := hx.bl hn; replace hq1 := hq1.bl hn; replace hq2 := hq2.bl hn; replace x_b1 := x_b1.bl hn; replace x_b2 := x_b2.bl hn; replace x_b3 := x_b3.bl hn; replace x_b4 := x_b4.bl hn; replace r1 := r1.bl hn; replace r2 := r2.bl hn; replace hb := tm hb hn
  clear hn; intro K hK
  go_big_op
  go_fit (one_any (PN.mk' hq1 hq2) (by omega) H0.out)
  rintro e w_9 ⟨_, rfl, ⟨n_oa, o_oa, k_oa, c_oa, n_ob, o_ob, k_ob, c_ob, rfl, o1, o2⟩, hb_9⟩
  replace ha1 := ha1.bl hb_9; replace ha2 := ha2.bl hb_9; replace hx := hx.bl hb_9; replace hq1 := hq1.bl hb_9; replace hq2 := hq2.bl hb_9; replace x_b1 := x_b1.bl hb_9; replace x_b2 := x_b2.bl hb_9; replace x_b3 := x_b3.bl hb_9; replace x_b4 := x_b4.bl hb_9; replace r1 := r1.bl hb_9; replace r2 := r2.bl hb_9; replace hb := tm hb hb_9
  have Lo1 := hide (o1.lenOf (res_len1 (H0.out) (hq1.len) (hq2.len)))
  have Lo2 := hide (o2.lenOf (res_len2 (H0.out) (hq1.len) (hq2.len)))
  rw [(pR_zero x y u v).1] at o1
  rw [(pR_zero x y u v).2] at o2
  refine hK _ _ rfl hb_9 ⟨x_b1.cell 0 rfl, x_b1.cell 1 rfl, x_b1.cell 2 rfl, x_b1.cell 3 rfl, x_b3.cell 0 rfl, x_b3.cell 1 rfl, x_b3.cell 2 rfl, x_b3.cell 3 rfl⟩ ?_
  clear hK K hb_9
  apply wpFl_end
  case ha => intro pt; simp only [putF, nthO, Act.put, ptr, List.setIfInBounds_toArray, List.set_cons_succ, List.set_cons_zero]; rfl
  case h =>
  intro w_10 pt hn hC hF hD
  clear hC
  replace ha1 := ha1.bl hn; replace ha2 := ha2.bl hn; replace hx := hx.bl hn; replace hq1 := hq1.bl hn; replace hq2 := hq2.bl hn; replace x_b1 := x_b1.bl hn; replace x_b2 := x_b2.bl hn; replace x_b3 := x_b3.bl hn; replace x_b4 := x_b4.bl hn; replace r1 := r1.bl hn; replace r2 := r2.bl hn; replace o1 := o1.bl hn; replace o2 := o2.bl hn; replace hb := tm hb hn
  clear hn
  obtain ⟨kB_b5, x_b5⟩ := hF 5 (by decide)
  replace x_b5 : Bs w_10 (pt 5) #[.bool false, .slice none 0 0, .bool false, .slice none 0 0] 26 := x_b5
  obtain ⟨kB_b6, x_b6⟩ := hF 6 (by decide)
  replace x_b6 : Bs w_10 (pt 6) #[.bool false, .slice none 0 0, .bool false, .slice none 0 0] 26 := x_b6
  have ne_b5_b6 := hide (hD 5 (by decide) 6 (by decide) (by decide))
  clear hF hD
  generalize pt 5 = p_b5 at *
  generalize pt 6 = p_b6 at *
  clear pt
  have kb_b5 := hide (Nat.le_trans kb0 kB_b5)
  have ne_b1_b5 : Hid (p_b1 ≠ p_b5) := Nat.ne_of_lt (Nat.lt_of_lt_of_le lt_b1 kB_b5)
  have ne_b2_b5 : Hid (p_b2 ≠ p_b5) := Nat.ne_of_lt (Nat.lt_of_lt_of_le lt_b2 kB_b5)
  have ne_b3_b5 : Hid (p_b3 ≠ p_b5) := Nat.ne_of_lt (Nat.lt_of_lt_of_le lt_b3 kB_b5)
  have ne_b4_b5 : Hid (p_b4 ≠ p_b5) := Nat.ne_of_lt (Nat.lt_of_lt_of_le lt_b4 kB_b5)
  clear kB_b5
  have kb_b6 := hide (Nat.le_trans kb0 kB_b6)
  have ne_b1_b6 : Hid (p_b1 ≠ p_b6) := Nat.ne_of_lt (Nat.lt_of_lt_of_le lt_b1 kB_b6)
  have ne_b2_b6 : Hid (p_b2 ≠ p_b6) := Nat.ne_of_lt (Nat.lt_of_lt_of_le lt_b2 kB_b6)
  have ne_b3_b6 : Hid (p_b3 ≠ p_b6) := Nat.ne_of_lt (Nat.lt_of_lt_of_le lt_b3 kB_b6)
  have ne_b4_b6 : Hid (p_b4 ≠ p_b6) := Nat.ne_of_lt (Nat.lt_of_lt_of_le lt_b4 kB_b6)
  clear kB_b6
  clear kb0 lt_b1 lt_b2 lt_b3 lt_b4
  refine tc fun K hK => ?_
  obtain ⟨d0, d1, d2, d3⟩ := x_b5.f4
  have f0 := x_b5.free 0; have f1 := x_b5.free 1; have f2 := x_b5.free 2; have f3 := x_b5.free 3
  go_big_op
  have hnd := x_b5.nod rfl rfl
  obtain ⟨w_11, eW, x_b5', ho⟩ : ∃ w', ((((w_10.setCell ⟨p_b5, 0, none⟩ (.bool n_ra)).setCell ⟨p_b5, 1, none⟩ (.slice o_ra k_ra c_ra)).setCell ⟨p_b5, 2, none⟩ (.bool n_rb)).setCell ⟨p_b5, 3, none⟩ (.slice o_rb k_rb c_rb)) = w' ∧ Bs w' p_b5 #[.bool n_ra, .slice o_ra k_ra c_ra, .bool n_rb, .slice o_rb k_rb c_rb] 26 ∧ Only p_b5 w_10 w' := x_b5.setN [(0, .bool n_ra), (1, .slice o_ra k_ra c_ra), (2, .bool n_rb), (3, .slice o_rb k_rb c_rb)]
  rw [eW]; clear eW d0 d1 d2 d3 f0 f1 f2 f3 x_b5
  have x_b5 := x_b5'; clear x_b5'
  replace ha1 := ha1.fr hnd ho; replace ha2 := ha2.fr hnd ho; replace hx := hx.fr hnd ho; replace hq1 := hq1.fr hnd ho; replace hq2 := hq2.fr hnd ho; replace x_b1 := x_b1.frame ho ne_b1_b5; replace x_b2 := x_b2.frame ho ne_b2_b5; replace x_b3 := x_b3.frame ho ne_b3_b5; replace x_b4 := x_b4.frame ho ne_b4_b5; replace r1 := r1.fr hnd ho; replace r2 := r2.fr hnd ho; replace o1 := o1.fr hnd ho; replace o2 := o2.fr hnd ho; replace x_b6 := x_b6.frame ho ne_b5_b6.symm; replace hb := belowOnly hb ho kb_b5
  refine hK _ _ rfl (And.intro ⟨x_b1.cell 0 rfl, x_b1.cell 1 rfl, x_b1.cell 2 rfl, x_b1.cell 3 rfl⟩ (And.intro ⟨x_b3.cell 0 rfl, x_b3.cell 1 rfl, x_b3.cell 2 rfl, x_b3.cell 3 rfl⟩ True.intro)) ?_; clear hK K ho hnd
  refine tc fun K hK => ?_
  obtain ⟨d0, d1, d2, d3⟩ := x_b6.f4
  have f0 := x_b6.free 0; have f1 := x_b6.free 1; have f2 := x_b6.free 2; have f3 := x_b6.free 3
  go_big_op
  have hnd := x_b6.nod rfl rfl
  obtain ⟨w_12, eW, x_b6', ho⟩ : ∃ w', ((((w_11.setCell ⟨p_b6, 0, none⟩ (.bool n_oa)).setCell ⟨p_b6, 1, none⟩ (.slice o_oa k_oa c_oa)).setCell ⟨p_b6, 2, none⟩ (.bool n_ob)).setCell ⟨p_b6, 3, none⟩ (.slice o_ob k_ob c_ob)) = w' ∧ Bs w' p_b6 #[.bool n_oa, .slice o_oa k_oa c_oa, .bool n_ob, .slice o_ob k_ob c_ob] 26 ∧ Only p_b6 w_11 w' := x_b6.setN [(0, .bool n_oa), (1, .slice o_oa k_oa c_oa), (2, .bool n_ob), (3, .slice o_ob k_ob c_ob)]
  rw [eW]; clear eW d0 d1 d2 d3 f0 f1 f2 f3 x_b6
  have x_b6 := x_b6'; clear x_b6'
  replace ha1 := ha1.fr hnd ho; replace ha2 := ha2.fr hnd ho; replace hx := hx.fr hnd ho; replace hq1 := hq1.fr hnd ho; replace hq2 := hq2.fr hnd ho; replace x_b1 := x_b1.frame ho ne_b1_b6; replace x_b2 := x_b2.frame ho ne_b2_b6; replace x_b3 := x_b3.frame ho ne_b3_b6; replace x_b4 := x_b4.frame ho ne_b4_b6; replace r1 := r1.fr hnd ho; replace r2 := r2.fr hnd ho; replace o1 := o1.fr hnd ho; replace o2 := o2.fr hnd ho; replace x_b5 := x_b5.frame ho ne_b5_b6; replace hb := belowOnly hb ho kb_b6
  refine hK _ _ rfl (And.intro ⟨x_b1.cell 0 rfl, x_b1.cell 1 rfl, x_b1.cell 2 rfl, x_b1.cell 3 rfl⟩ (And.intro ⟨x_b3.cell 0 rfl, x_b3.cell 1 rfl, x_b3.cell 2 rfl, x_b3.cell 3 rfl⟩ True.intro)) ?_; clear hK K ho hnd
  apply wpTail_end
  refine hK2 _ _ ?_
  refine wp_seq_k ?_
  intro K3 hK3
  refine wp_seq_k ?_
  intro K4 hK4
  refine wp_region_sq [0, 1, 2] (by kernel_rfl) ?_
  refine sc fun K hK => ?_
  obtain ⟨d0, d1⟩ := x_b2.f2
  go_big_op; refine hK _ _ rfl ?_; clear hK K d0 d1
  have Lo1 := hide (o1.lenOf ((LP.out 0).1))
  have Lo2 := hide (o2.lenOf ((LP.out 0).2))
  refine sc fun K hK => ?_
  go_big_op
  go_fit (zsign_any hx (by omega) )
  rintro e w_13 ⟨rfl, hb_13⟩
  clear ha1 ha2 x_b1
  replace hx := hx.bl hb_13; replace hq1 := hq1.bl hb_13; replace hq2 := hq2.bl hb_13; replace x_b2 := x_b2.bl hb_13; replace x_b3 := x_b3.bl hb_13; replace x_b4 := x_b4.bl hb_13; replace r1 := r1.bl hb_13; replace r2 := r2.bl hb_13; replace o1 := o1.bl hb_13; replace o2 := o2.bl hb_13; replace x_b5 := x_b5.bl hb_13; replace x_b6 := x_b6.bl hb_13; replace hb := tm hb hb_13
  refine hK _ _ rfl ?_
  clear hK K hb_13
  refine sc fun K hK => ?_
  go_big_op; refine hK _ _ rfl ?_; clear hK K
  apply wpSq_end
  refine hK4 _ _ ?_
  refine wp_cond_false (congrArg Value.bool (show _ = false from (by first | rfl | assumption | (simp; done) | exact decide_eq_false (by omega) | omega))) ?_
  refine wp_skip ?_
  refine hK3 _ _ ?_
  refine wp_seq_k ?_
  intro K5 hK5
  refine wp_seq_k ?_
  intro K6 hK6
  refine wp_region_sq [0, 1, 2, 3] (by kernel_rfl) ?_
  refine sc fun K hK => ?_
  obtain ⟨d0, d1⟩ := x_b2.f2
  go_big_op; refine hK _ _ rfl ?_; clear hK K d0 d1
  refine sc fun K hK => ?_
  go_big_op
  go_fit (zbits_any hx (by omega) )
  rintro e w_14 ⟨rfl, hb_14⟩
  replace hx := hx.bl hb_14; replace hq1 := hq1.bl hb_14; replace hq2 := hq2.bl hb_14; replace x_b2 := x_b2.bl hb_14; replace x_b3 := x_b3.bl hb_14; replace x_b4 := x_b4.bl hb_14; replace r1 := r1.bl hb_14; replace r2 := r2.bl hb_14; replace o1 := o1.bl hb_14; replace o2 := o2.bl hb_14; replace x_b5 := x_b5.bl hb_14; replace x_b6 := x_b6.bl hb_14; replace hb := tm hb hb_14
  rw [HB.out]
  refine hK _ _ rfl ?_
  clear hK K hb_14
  refine sc fun K hK => ?_
  go_big_op; refine hK _ _ rfl ?_; clear hK K
  refine sc fun K hK => ?_
  go_big_move; refine hK _ _ rfl ?_; clear hK K
  apply wpSq_end
  refine hK6 _ _ ?_
  refine wp_block ?_
  go_loopg [9] B (fun k s9 wr => s9 = .int .i64 ((k : Int) - 1) ∧ k ≤ B ∧ ∃ g1n g1o g1k g1c g2n g2o g2k g2c, Bs wr p_b6 #[.bool g1n, .slice g1o g1k g1c, .bool g2n, .slice g2o g2k g2c] 26 ∧ ZC wr (.agg #[.bool g1n, .slice g1o g1k g1c]) (pR1 x y u v (z.natAbs / 2 ^ k)) ∧ ZC wr (.agg #[.bool g2n, .slice g2o g2k g2c]) (pR2 x y u v (z.natAbs / 2 ^ k)) ∧ Bs wr p_b2 #[.bool n_1, .slice o_1 k_1 c_1] 24 ∧ Bs wr p_b3 #[.bool n_2a, .slice o_2a k_2a c_2a, .bool n_2b, .slice o_2b k_2b c_2b] 26 ∧ Bs wr p_b4 #[.bool false, .slice none 0 0, .bool false, .slice none 0 0] 26 ∧ Bs wr p_b5 #[.bool n_ra, .slice o_ra k_ra c_ra, .bool n_rb, .slice o_rb k_rb c_rb] 26 ∧ ZN wr (.agg #[.bool n_1, .slice o_1 k_1 c_1]) z s ∧ ZN wr (.agg #[.bool n_2a, .slice o_2a k_2a c_2a]) u L ∧ ZN wr (.agg #[.bool n_2b, .slice o_2b k_2b c_2b]) v L ∧ ZC wr (.agg #[.bool n_ra, .slice o_ra k_ra c_ra]) (gR1 x y u v) ∧ ZC wr (.agg #[.bool n_rb, .slice o_rb k_rb c_rb]) (gR2 x y u v) ∧ Below w.heap.size w wr)
  case atStart => exact ⟨rfl, Nat.le_refl _, _, _, _, _, _, _, _, _, x_b6, by rw [EZ.out]; exact o1, by rw [EZ.out]; exact o2, x_b2, x_b3, x_b4, x_b5, hx, hq1, hq2, r1, r2, hb⟩
  case round =>
  clear hx hq1 hq2 x_b2 x_b3 x_b4 r1 r2 o1 o2 x_b5 x_b6
  obtain ⟨rfl, hk, g1n, g1o, g1k, g1c, g2n, g2o, g2k, g2c, x_b6, g1, g2, x_b2, x_b3, x_b4, x_b5, hx, hq1, hq2, r1, r2, hb⟩ := hrel
  have Lg1 := hide (LP.out (z.natAbs / 2 ^ gk)).1
  have Lg2 := hide (LP.out (z.natAbs / 2 ^ gk)).2
  cases gk with
  | zero =>
    have e0 : z.natAbs / 2 ^ 0 = z.natAbs := by rw [Nat.pow_zero, Nat.div_one]
    rw [e0] at g1 g2
    refine wp_seq_k ?_
    intro K7 hK7
    refine wp_seq_k ?_
    intro K8 hK8
    refine wp_region_sq [0, 1] (by kernel_rfl) ?_
    refine sc fun K hK => ?_
    go_big_move; refine hK _ _ rfl ?_; clear hK K
    refine sc fun K hK => ?_
    go_big_op; refine hK _ _ rfl ?_; clear hK K
    apply wpSq_end
    refine hK8 _ _ ?_
    refine wp_cond_false (congrArg Value.bool (show _ = false from (by first | rfl | assumption | (simp; done) | exact decide_eq_false (by omega) | omega))) ?_
    refine wp_exit ?_
    refine hK5 _ _ ?_
    refine wp_seq_k ?_
    intro K9 hK9
    refine wp_region_sq [0, 1] (by kernel_rfl) ?_
    refine sc fun K hK => ?_
    obtain ⟨d0, d1, d2, d3⟩ := x_b6.f4
    go_big_op; refine hK _ _ rfl ?_; clear hK K d0 d1 d2 d3
    refine sc fun K hK => ?_
    obtain ⟨d0, d1, d2, d3⟩ := x_b4.f4
    have f0 := x_b4.free 0; have f1 := x_b4.free 1; have f2 := x_b4.free 2; have f3 := x_b4.free 3
    go_big_op
    have hnd := x_b4.nod rfl rfl
    obtain ⟨w_15, eW, x_b4', ho⟩ : ∃ w', ((((wr.setCell ⟨p_b4, 0, none⟩ (.bool g1n)).setCell ⟨p_b4, 1, none⟩ (.slice g1o g1k g1c)).setCell ⟨p_b4, 2, none⟩ (.bool g2n)).setCell ⟨p_b4, 3, none⟩ (.slice g2o g2k g2c)) = w' ∧ Bs w' p_b4 #[.bool g1n, .slice g1o g1k g1c, .bool g2n, .slice g2o g2k g2c] 26 ∧ Only p_b4 wr w' := x_b4.setN [(0, .bool g1n), (1, .slice g1o g1k g1c), (2, .bool g2n), (3, .slice g2o g2k g2c)]
    rw [eW]; clear eW d0 d1 d2 d3 f0 f1 f2 f3 x_b4
    have x_b4 := x_b4'; clear x_b4'
    replace x_b2 := x_b2.frame ho ne_b2_b4; replace hx := hx.fr hnd ho; replace x_b3 := x_b3.frame ho ne_b3_b4; replace hq1 := hq1.fr hnd ho; replace hq2 := hq2.fr hnd ho; replace x_b5 := x_b5.frame ho ne_b4_b5.symm; replace r1 := r1.fr hnd ho; replace r2 := r2.fr hnd ho; replace x_b6 := x_b6.frame ho ne_b4_b6.symm; replace g1 := g1.fr hnd ho; replace g2 := g2.fr hnd ho; replace hb := belowOnly hb ho kb_b4
    refine hK _ _ rfl ?_; clear hK K ho hnd
    apply wpSq_end
    refine hK9 _ _ ?_
    refine wp_ret ?_
    try dsimp only [Exit.then, Exit.inBlock]
    obtain ⟨r0_0, r0_1, r0_2, r0_3⟩ := x_b4.f4
    refine bodyPost_ret (v := (.agg #[.bool g1n, .slice g1o g1k g1c, .bool g2n, .slice g2o g2k g2c])) (by simp [results, Try.results34, go_sem, r0_0, r0_1, r0_2, r0_3]) rfl ?_
    exact ⟨_, rfl, .mk' g1 g2, hb⟩
  | succ i =>
    have HD := hide (pR_dbl (x := x) (y := y) H0.out (z.natAbs / 2 ^ (i + 1)))
    have HN := hide (pR_next (x := x) (y := y) H0.out (2 * (z.natAbs / 2 ^ (i + 1))))
    have HU := hide (half_up z.natAbs i)
    have e1 : ((i + 1 : Nat) : Int) - 1 = (i : Int) := by omega
    rw [e1]
    by_cases hbit : z.natAbs / 2 ^ i % 2 = 1
    · have HBT := hide hbit
      have HE := hide (show 2 * (z.natAbs / 2 ^ (i + 1)) + 1 = z.natAbs / 2 ^ i by rw [HU.out, hbit])
      clear hbit
      refine wp_seq_k ?_
      intro K7 hK7
      refine wp_seq_k ?_
      intro K8 hK8
      refine wp_region_sq [0, 1] (by kernel_rfl) ?_
      refine sc fun K hK => ?_
      go_big_move; refine hK _ _ rfl ?_; clear hK K
      refine sc fun K hK => ?_
      go_big_op; refine hK _ _ rfl ?_; clear hK K
      apply wpSq_end
      refine hK8 _ _ ?_
      refine wp_cond_true (congrArg Value.bool (show _ = true from (by first | rfl | assumption | (simp; done) | exact decide_eq_true (by omega) | omega))) ?_
      refine wp_skip ?_
      refine hK7 _ _ ?_
      refine wp_seq_k ?_
      intro K9 hK9
      refine wp_block ?_
      refine wp_seq_k ?_
      intro K10 hK10
      refine wp_region_fl2 [(0, false), (1, false), (3, false), (2, true), (4, true)] [5] [] (fun _ => default) [0, 0, 99, 1, 99, 99] [(5, 0)] (fun w' => w'.cell? ⟨p_b6, 0, none⟩ = some (.bool g1n) ∧ w'.cell? ⟨p_b6, 1, none⟩ = some (.slice g1o g1k g1c) ∧ w'.cell? ⟨p_b6, 2, none⟩ = some (.bool g2n) ∧ w'.cell? ⟨p_b6, 3, none⟩ = some (.slice g2o g2k g2c) ∧ w'.cell? ⟨p_b3, 0, none⟩ = some (.bool n_2a) ∧ w'.cell? ⟨p_b3, 1, none⟩ = some (.slice o_2a k_2a c_2a) ∧ w'.cell? ⟨p_b3, 2, none⟩ = some (.bool n_2b) ∧ w'.cell? ⟨p_b3, 3, none⟩ = some (.slice o_2b k_2b c_2b)) [fun w' => w'.cell? ⟨p_b6, 0, none⟩ = some (.bool g1n) ∧ w'.cell? ⟨p_b6, 1, none⟩ = some (.slice g1o g1k g1c) ∧ w'.cell? ⟨p_b6, 2, none⟩ = some (.bool g2n) ∧ w'.cell? ⟨p_b6, 3, none⟩ = some (.slice g2o g2k g2c), fun w' => w'.cell? ⟨p_b3, 0, none⟩ = some (.bool n_2a) ∧ w'.cell? ⟨p_b3, 1, none⟩ = some (.slice o_2a k_2a c_2a) ∧ w'.cell? ⟨p_b3, 2, none⟩ = some (.bool n_2b) ∧ w'.cell? ⟨p_b3, 3, none⟩ = some (.slice o_2b k_2b c_2b)] (by kernel_rfl) (by kernel_rfl) (by kernel_rfl) (by kernel_rfl) (by kernel_rfl) (by kernel_rfl) (by kernel_rfl) (by kernel_rfl) (by decide) (by intro j hj; cases hj) (by intro w' o hC; obtain ⟨c0, c1, c2, c3, c4, c5, c6, c7⟩ := hC; exact ⟨cell_alloc c0 o, cell_alloc c1 o, cell_alloc c2 o, cell_alloc c3 o, cell_alloc c4 o, cell_alloc c5 o, cell_alloc c6 o, cell_alloc c7 o⟩) (by intro w' hC G hG; obtain ⟨c0, c1, c2, c3, c4, c5, c6, c7⟩ := hC; simp only [List.mem_cons, List.not_mem_nil, or_false] at hG; rcases hG with rfl | rfl <;> first | exact ⟨c0, c1, c2, c3⟩ | exact ⟨c4, c5, c6, c7⟩) ?_
      have lt_b2 := x_b2.lt
      have lt_b3 := x_b3.lt
      have lt_b4 := x_b4.lt
      have lt_b5 := x_b5.lt
      have lt_b6 := x_b6.lt
      intro w_15 hn
      replace lt_b2 := Nat.lt_of_lt_of_le lt_b2 hn.size
      replace lt_b3 := Nat.lt_of_lt_of_le lt_b3 hn.size
      replace lt_b4 := Nat.lt_of_lt_of_le lt_b4 hn.size
      replace lt_b5 := Nat.lt_of_lt_of_le lt_b5 hn.size
      replace lt_b6 := Nat.lt_of_lt_of_le lt_b6 hn.size
      replace x_b2 := x_b2.bl hn; replace hx := hx.bl hn; replace x_b3 := x_b3.bl hn; replace hq1 := hq1.bl hn; replace hq2 := hq2.bl hn; replace x_b4 := x_b4.bl hn; replace x_b5 := x_b5.bl hn; replace r1 := r1.bl hn; replace r2 := r2.bl hn; replace x_b6 := x_b6.bl hn; replace g1 := g1.bl hn; replace g2 := g2.bl hn; replace hb := tm hb hn
      clear hn
      have kb0 := hb.size
      refine ⟨⟨x_b6.cell 0 rfl, x_b6.cell 1 rfl, x_b6.cell 2 rfl, x_b6.cell 3 rfl, x_b3.cell 0 rfl, x_b3.cell 1 rfl, x_b3.cell 2 rfl, x_b3.cell 3 rfl⟩, ?_⟩
      apply wpFl_ld rfl rfl; (case h1 => intro w' hC K hK; obtain ⟨c0, c1, c2, c3⟩ := hC; go_big_op; exact hK); iterate 4 kernel_rfl
      apply wpFl_ld rfl rfl; (case h1 => intro w' hC K hK; obtain ⟨c0, c1, c2, c3⟩ := hC; go_big_op; exact hK); iterate 4 kernel_rfl
      apply wpFl_ld rfl rfl; (case h1 => intro w' hC K hK; obtain ⟨c0, c1, c2, c3⟩ := hC; go_big_op; exact hK); iterate 4 kernel_rfl
      refine wpFl_call rfl (by kernel_rfl) fun w_16 hn hC => ?_; clear hC
      replace x_b2 := x_b2.bl hn; replace hx := hx.bl hn; replace x_b3 := x_b3.bl hn; replace hq1 := hq1.bl hn; replace hq2 := hq2.bl hn; replace x_b4 := x_b4.bl hn; replace x_b5 := x_b5.bl hn; replace r1 := r1.bl hn; replace r2 := r2.bl hn; replace x_b6 := x_b6.bl hn; replace g1 := g1.bl hn; replace g2 := g2.bl hn; replace hb := tm hb hn
      clear hn; intro K hK
      go_big_op
      go_fit (gMul_any (PN.mk' (g1.zn Lg1.out) (g2.zn Lg2.out)) (PN.mk' (g1.zn Lg1.out) (g2.zn Lg2.out)) (by omega) (by omega) (by omega) (by omega) )
      rintro e w_17 ⟨_, rfl, ⟨n_ma, o_ma, k_ma, c_ma, n_mb, o_mb, k_mb, c_mb, rfl, m1, m2⟩, hb_17⟩
      replace x_b2 := x_b2.bl hb_17; replace hx := hx.bl hb_17; replace x_b3 := x_b3.bl hb_17; replace hq1 := hq1.bl hb_17; replace hq2 := hq2.bl hb_17; replace x_b4 := x_b4.bl hb_17; replace x_b5 := x_b5.bl hb_17; replace r1 := r1.bl hb_17; replace r2 := r2.bl hb_17; replace x_b6 := x_b6.bl hb_17; replace g1 := g1.bl hb_17; replace g2 := g2.bl hb_17; replace hb := tm hb hb_17
      have Lm1 := hide (m1.lenOf (zlen_sub (zlen_mul (Lg1.out) (Lg1.out)) (zlen_mul (Lg2.out) (Lg2.out))))
      have Lm2 := hide (m2.lenOf (zlen_add (zlen_mul (Lg1.out) (Lg2.out)) (zlen_mul (Lg2.out) (Lg1.out))))
      refine hK _ _ rfl hb_17 ⟨x_b6.cell 0 rfl, x_b6.cell 1 rfl, x_b6.cell 2 rfl, x_b6.cell 3 rfl, x_b3.cell 0 rfl, x_b3.cell 1 rfl, x_b3.cell 2 rfl, x_b3.cell 3 rfl⟩ ?_
      clear hK K hb_17
      refine wpFl_call rfl (by kernel_rfl) fun w_18 hn hC => ?_; clear hC
      replace x_b2 := x_b2.bl hn; replace hx := hx.bl hn; replace x_b3 := x_b3.bl hn; replace hq1 := hq1.bl hn; replace hq2 := hq2.bl hn; replace x_b4 := x_b4.bl hn; replace x_b5 := x_b5.bl hn; replace r1 := r1.bl hn; replace r2 := r2.bl hn; replace x_b6 := x_b6.bl hn; replace g1 := g1.bl hn; replace g2 := g2.bl hn; replace m1 := m1.bl hn; replace m2 := m2.bl hn; replace hb := tm hb hn
      clear hn; intro K hK
      go_big_op
      go_fit (res_any (PN.mk' (m1.zn Lm1.out) (m2.zn Lm2.out)) (PN.mk' hq1 hq2) (by omega) (by omega) (by omega) H0.out)
      rintro e w_19 ⟨_, rfl, ⟨n_ea, o_ea, k_ea, c_ea, n_eb, o_eb, k_eb, c_eb, rfl, e1, e2⟩, hb_19⟩
      replace x_b2 := x_b2.bl hb_19; replace hx := hx.bl hb_19; replace x_b3 := x_b3.bl hb_19; replace hq1 := hq1.bl hb_19; replace hq2 := hq2.bl hb_19; replace x_b4 := x_b4.bl hb_19; replace x_b5 := x_b5.bl hb_19; replace r1 := r1.bl hb_19; replace r2 := r2.bl hb_19; replace x_b6 := x_b6.bl hb_19; replace g1 := g1.bl hb_19; replace g2 := g2.bl hb_19; replace m1 := m1.bl hb_19; replace m2 := m2.bl hb_19; replace hb := tm hb hb_19
      have Le1 := hide (e1.lenOf (res_len1 (H0.out) (hq1.len) (hq2.len)))
      have Le2 := hide (e2.lenOf (res_len2 (H0.out) (hq1.len) (hq2.len)))
      rw [HD.out.1] at e1
      rw [HD.out.2] at e2
      refine hK _ _ rfl hb_19 ⟨x_b6.cell 0 rfl, x_b6.cell 1 rfl, x_b6.cell 2 rfl, x_b6.cell 3 rfl, x_b3.cell 0 rfl, x_b3.cell 1 rfl, x_b3.cell 2 rfl, x_b3.cell 3 rfl⟩ ?_
      clear hK K hb_19
      apply wpFl_end
      case ha => intro pt; simp only [putF]; rfl
      case h =>
      intro w_20 pt hn hC hF hD
      clear hC
      clear m1 m2
      replace x_b2 := x_b2.bl hn; replace hx := hx.bl hn; replace x_b3 := x_b3.bl hn; replace hq1 := hq1.bl hn; replace hq2 := hq2.bl hn; replace x_b4 := x_b4.bl hn; replace x_b5 := x_b5.bl hn; replace r1 := r1.bl hn; replace r2 := r2.bl hn; replace x_b6 := x_b6.bl hn; replace g1 := g1.bl hn; replace g2 := g2.bl hn; replace e1 := e1.bl hn; replace e2 := e2.bl hn; replace hb := tm hb hn
      clear hn
      clear hF hD
      clear pt
      clear kb0 lt_b2 lt_b3 lt_b4 lt_b5 lt_b6
      refine tc fun K hK => ?_
      obtain ⟨d0, d1, d2, d3⟩ := x_b6.f4
      have f0 := x_b6.free 0; have f1 := x_b6.free 1; have f2 := x_b6.free 2; have f3 := x_b6.free 3
      go_big_op
      have hnd := x_b6.nod rfl rfl
      obtain ⟨w_21, eW, x_b6', ho⟩ : ∃ w', ((((w_20.setCell ⟨p_b6, 0, none⟩ (.bool n_ea)).setCell ⟨p_b6, 1, none⟩ (.slice o_ea k_ea c_ea)).setCell ⟨p_b6, 2, none⟩ (.bool n_eb)).setCell ⟨p_b6, 3, none⟩ (.slice o_eb k_eb c_eb)) = w' ∧ Bs w' p_b6 #[.bool n_ea, .slice o_ea k_ea c_ea, .bool n_eb, .slice o_eb k_eb c_eb] 26 ∧ Only p_b6 w_20 w' := x_b6.setN [(0, .bool n_ea), (1, .slice o_ea k_ea c_ea), (2, .bool n_eb), (3, .slice o_eb k_eb c_eb)]
      rw [eW]; clear eW d0 d1 d2 d3 f0 f1 f2 f3 x_b6
      have x_b6 := x_b6'; clear x_b6'
      clear g1 g2
      replace x_b2 := x_b2.frame ho ne_b2_b6; replace hx := hx.fr hnd ho; replace x_b3 := x_b3.frame ho ne_b3_b6; replace hq1 := hq1.fr hnd ho; replace hq2 := hq2.fr hnd ho; replace x_b4 := x_b4.frame ho ne_b4_b6; replace x_b5 := x_b5.frame ho ne_b5_b6; replace r1 := r1.fr hnd ho; replace r2 := r2.fr hnd ho; replace e1 := e1.fr hnd ho; replace e2 := e2.fr hnd ho; replace hb := belowOnly hb ho kb_b6
      refine hK _ _ rfl (And.intro True.intro (And.intro ⟨x_b3.cell 0 rfl, x_b3.cell 1 rfl, x_b3.cell 2 rfl, x_b3.cell 3 rfl⟩ True.intro)) ?_; clear hK K ho hnd
      apply wpTail_end
      refine hK10 _ _ ?_
      refine wp_seq_k ?_
      intro K11 hK11
      refine wp_region_sq [0, 1, 2, 3, 4, 5, 6, 7, 8, 9, 10] (by kernel_rfl) ?_
      obtain ⟨bb, boff, dd, hd1, hd2, hd3, hd4, hd5, hd6⟩ := hx.bit (i := i) (by rw [HB.out]; omega)
      have hsh : bits .and .u32 ((dd : Int) / 2 ^ (i % 32)) 1 = ((z.natAbs / 2 ^ i % 2 : Nat) : Int) := by rw [u32_and_one, ← hd6]; simp
      rw [HBT.out] at hsh
      refine sc fun K hK => ?_
      go_big_op; refine hK _ _ rfl ?_; clear hK K
      refine sc fun K hK => ?_
      obtain ⟨d0, d1⟩ := x_b2.f2
      go_big_op; refine hK _ _ rfl ?_; clear hK K d0 d1
      refine sc fun K hK => ?_
      go_big_move; refine hK _ _ rfl ?_; clear hK K
      refine sc fun K hK => ?_
      go_big_op; refine hK _ _ rfl ?_; clear hK K
      refine sc fun K hK => ?_
      go_big_op; refine hK _ _ rfl ?_; clear hK K
      refine sc fun K hK => ?_
      go_big_op; refine hK _ _ rfl ?_; clear hK K
      refine sc fun K hK => ?_
      go_big_move; refine hK _ _ rfl ?_; clear hK K
      refine sc fun K hK => ?_
      go_big_op; refine hK _ _ rfl ?_; clear hK K
      refine sc fun K hK => ?_
      go_big_op; refine hK _ _ rfl ?_; clear hK K
      refine sc fun K hK => ?_
      go_big_op; refine hK _ _ rfl ?_; clear hK K
      refine sc fun K hK => ?_
      go_big_op; refine hK _ _ rfl ?_; clear hK K
      apply wpSq_end
      refine hK11 _ _ ?_
      have Le1 := hide (e1.lenOf ((LP.out _).1))
      have Le2 := hide (e2.lenOf ((LP.out _).2))
      refine wp_cond_true (congrArg Value.bool (show _ = true from (by first | rfl | assumption | (simp; done) | exact decide_eq_true (by omega) | omega))) ?_
      refine wp_region_fl2 [(0, false), (1, false), (3, false), (2, true), (4, true)] [5] [] (fun _ => default) [0, 1, 99, 2, 99, 99] [(5, 0)] (fun w' => w'.cell? ⟨p_b6, 0, none⟩ = some (.bool n_ea) ∧ w'.cell? ⟨p_b6, 1, none⟩ = some (.slice o_ea k_ea c_ea) ∧ w'.cell? ⟨p_b6, 2, none⟩ = some (.bool n_eb) ∧ w'.cell? ⟨p_b6, 3, none⟩ = some (.slice o_eb k_eb c_eb) ∧ w'.cell? ⟨p_b5, 0, none⟩ = some (.bool n_ra) ∧ w'.cell? ⟨p_b5, 1, none⟩ = some (.slice o_ra k_ra c_ra) ∧ w'.cell? ⟨p_b5, 2, none⟩ = some (.bool n_rb) ∧ w'.cell? ⟨p_b5, 3, none⟩ = some (.slice o_rb k_rb c_rb) ∧ w'.cell? ⟨p_b3, 0, none⟩ = some (.bool n_2a) ∧ w'.cell? ⟨p_b3, 1, none⟩ = some (.slice o_2a k_2a c_2a) ∧ w'.cell? ⟨p_b3, 2, none⟩ = some (.bool n_2b) ∧ w'.cell? ⟨p_b3, 3, none⟩ = some (.slice o_2b k_2b c_2b)) [fun w' => w'.cell? ⟨p_b6, 0, none⟩ = some (.bool n_ea) ∧ w'.cell? ⟨p_b6, 1, none⟩ = some (.slice o_ea k_ea c_ea) ∧ w'.cell? ⟨p_b6, 2, none⟩ = some (.bool n_eb) ∧ w'.cell? ⟨p_b6, 3, none⟩ = some (.slice o_eb k_eb c_eb), fun w' => w'.cell? ⟨p_b5, 0, none⟩ = some (.bool n_ra) ∧ w'.cell? ⟨p_b5, 1, none⟩ = some (.slice o_ra k_ra c_ra) ∧ w'.cell? ⟨p_b5, 2, none⟩ = some (.bool n_rb) ∧ w'.cell? ⟨p_b5, 3, none⟩ = some (.slice o_rb k_rb c_rb), fun w' => w'.cell? ⟨p_b3, 0, none⟩ = some (.bool n_2a) ∧ w'.cell? ⟨p_b3, 1, none⟩ = some (.slice o_2a k_2a c_2a) ∧ w'.cell? ⟨p_b3, 2, none⟩ = some (.bool n_2b) ∧ w'.cell? ⟨p_b3, 3, none⟩ = some (.slice o_2b k_2b c_2b)] (by kernel_rfl) (by kernel_rfl) (by kernel_rfl) (by kernel_rfl) (by kernel_rfl) (by kernel_rfl) (by kernel_rfl) (by kernel_rfl) (by decide) (by intro j hj; cases hj) (by intro w' o hC; obtain ⟨c0, c1, c2, c3, c4, c5, c6, c7, c8, c9, c10, c11⟩ := hC; exact ⟨cell_alloc c0 o, cell_alloc c1 o, cell_alloc c2 o, cell_alloc c3 o, cell_alloc c4 o, cell_alloc c5 o, cell_alloc c6 o, cell_alloc c7 o, cell_alloc c8 o, cell_alloc c9 o, cell_alloc c10 o, cell_alloc c11 o⟩) (by intro w' hC G hG; obtain ⟨c0, c1, c2, c3, c4, c5, c6, c7, c8, c9, c10, c11⟩ := hC; simp only [List.mem_cons, List.not_mem_nil, or_false] at hG; rcases hG with rfl | rfl | rfl <;> first | exact ⟨c0, c1, c2, c3⟩ | exact ⟨c4, c5, c6, c7⟩ | exact ⟨c8, c9, c10, c11⟩) ?_
      have lt_b2 := x_b2.lt
      have lt_b3 := x_b3.lt
      have lt_b4 := x_b4.lt
      have lt_b5 := x_b5.lt
      have lt_b6 := x_b6.lt
      intro w_22 hn
      replace lt_b2 := Nat.lt_of_lt_of_le lt_b2 hn.size
      replace lt_b3 := Nat.lt_of_lt_of_le lt_b3 hn.size
      replace lt_b4 := Nat.lt_of_lt_of_le lt_b4 hn.size
      replace lt_b5 := Nat.lt_of_lt_of_le lt_b5 hn.size
      replace lt_b6 := Nat.lt_of_lt_of_le lt_b6 hn.size
      replace x_b2 := x_b2.bl hn; replace hx := hx.bl hn; replace x_b3 := x_b3.bl hn; replace hq1 := hq1.bl hn; replace hq2 := hq2.bl hn; replace x_b4 := x_b4.bl hn; replace x_b5 := x_b5.bl hn; replace r1 := r1.bl hn; replace r2 := r2.bl hn; replace x_b6 := x_b6.bl hn; replace e1 := e1.bl hn; replace e2 := e2.bl hn; replace hb := tm hb hn
      clear hn
      have kb0 := hb.size
      refine ⟨⟨x_b6.cell 0 rfl, x_b6.cell 1 rfl, x_b6.cell 2 rfl, x_b6.cell 3 rfl, x_b5.cell 0 rfl, x_b5.cell 1 rfl, x_b5.cell 2 rfl, x_b5.cell 3 rfl, x_b3.cell 0 rfl, x_b3.cell 1 rfl, x_b3.cell 2 rfl, x_b3.cell 3 rfl⟩, ?_⟩
      apply wpFl_ld rfl rfl; (case h1 => intro w' hC K hK; obtain ⟨c0, c1, c2, c3⟩ := hC; go_big_op; exact hK); iterate 4 kernel_rfl
      apply wpFl_ld rfl rfl; (case h1 => intro w' hC K hK; obtain ⟨c0, c1, c2, c3⟩ := hC; go_big_op; exact hK); iterate 4 kernel_rfl
      apply wpFl_ld rfl rfl; (case h1 => intro w' hC K hK; obtain ⟨c0, c1, c2, c3⟩ := hC; go_big_op; exact hK); iterate 4 kernel_rfl
      refine wpFl_call rfl (by kernel_rfl) fun w_23 hn hC => ?_; clear hC
      replace x_b2 := x_b2.bl hn; replace hx := hx.bl hn; replace x_b3 := x_b3.bl hn; replace hq1 := hq1.bl hn; replace hq2 := hq2.bl hn; replace x_b4 := x_b4.bl hn; replace x_b5 := x_b5.bl hn; replace r1 := r1.bl hn; replace r2 := r2.bl hn; replace x_b6 := x_b6.bl hn; replace e1 := e1.bl hn; replace e2 := e2.bl hn; replace hb := tm hb hn
      clear hn; intro K hK
      go_big_op
      go_fit (gMul_any (PN.mk' (e1.zn Le1.out) (e2.zn Le2.out)) (PN.mk' (r1.zn Lr1.out) (r2.zn Lr2.out)) (by omega) (by omega) (by omega) (by omega) )
      rintro e w_24 ⟨_, rfl, ⟨n_fa, o_fa, k_fa, c_fa, n_fb, o_fb, k_fb, c_fb, rfl, f1, f2⟩, hb_24⟩
      replace x_b2 := x_b2.bl hb_24; replace hx := hx.bl hb_24; replace x_b3 := x_b3.bl hb_24; replace hq1 := hq1.bl hb_24; replace hq2 := hq2.bl hb_24; replace x_b4 := x_b4.bl hb_24; replace x_b5 := x_b5.bl hb_24; replace r1 := r1.bl hb_24; replace r2 := r2.bl hb_24; replace x_b6 := x_b6.bl hb_24; replace e1 := e1.bl hb_24; replace e2 := e2.bl hb_24; replace hb := tm hb hb_24
      have Lf1 := hide (f1.lenOf (zlen_sub (zlen_mul (Le1.out) (Lr1.out)) (zlen_mul (Le2.out) (Lr2.out))))
      have Lf2 := hide (f2.lenOf (zlen_add (zlen_mul (Le1.out) (Lr2.out)) (zlen_mul (Le2.out) (Lr1.out))))
      refine hK _ _ rfl hb_24 ⟨x_b6.cell 0 rfl, x_b6.cell 1 rfl, x_b6.cell 2 rfl, x_b6.cell 3 rfl, x_b5.cell 0 rfl, x_b5.cell 1 rfl, x_b5.cell 2 rfl, x_b5.cell 3 rfl, x_b3.cell 0 rfl, x_b3.cell 1 rfl, x_b3.cell 2 rfl, x_b3.cell 3 rfl⟩ ?_
      clear hK K hb_24
      refine wpFl_call rfl (by kernel_rfl) fun w_25 hn hC => ?_; clear hC
      replace x_b2 := x_b2.bl hn; replace hx := hx.bl hn; replace x_b3 := x_b3.bl hn; replace hq1 := hq1.bl hn; replace hq2 := hq2.bl hn; replace x_b4 := x_b4.bl hn; replace x_b5 := x_b5.bl hn; replace r1 := r1.bl hn; replace r2 := r2.bl hn; replace x_b6 := x_b6.bl hn; replace e1 := e1.bl hn; replace e2 := e2.bl hn; replace f1 := f1.bl hn; replace f2 := f2.bl hn; replace hb := tm hb hn
      clear hn; intro K hK
      go_big_op
      go_fit (res_any (PN.mk' (f1.zn Lf1.out) (f2.zn Lf2.out)) (PN.mk' hq1 hq2) (by omega) (by omega) (by omega) H0.out)
      rintro e w_26 ⟨_, rfl, ⟨n_ca, o_ca, k_ca, c_ca, n_cb, o_cb, k_cb, c_cb, rfl, c1, c2⟩, hb_26⟩
      replace x_b2 := x_b2.bl hb_26; replace hx := hx.bl hb_26; replace x_b3 := x_b3.bl hb_26; replace hq1 := hq1.bl hb_26; replace hq2 := hq2.bl hb_26; replace x_b4 := x_b4.bl hb_26; replace x_b5 := x_b5.bl hb_26; replace r1 := r1.bl hb_26; replace r2 := r2.bl hb_26; replace x_b6 := x_b6.bl hb_26; replace e1 := e1.bl hb_26; replace e2 := e2.bl hb_26; replace f1 := f1.bl hb_26; replace f2 := f2.bl hb_26; replace hb := tm hb hb_26
      rw [HN.out.1, HE.out] at c1
      rw [HN.out.2, HE.out] at c2
      refine hK _ _ rfl hb_26 ⟨x_b6.cell 0 rfl, x_b6.cell 1 rfl, x_b6.cell 2 rfl, x_b6.cell 3 rfl, x_b5.cell 0 rfl, x_b5.cell 1 rfl, x_b5.cell 2 rfl, x_b5.cell 3 rfl, x_b3.cell 0 rfl, x_b3.cell 1 rfl, x_b3.cell 2 rfl, x_b3.cell 3 rfl⟩ ?_
      clear hK K hb_26
      apply wpFl_end
      case ha => intro pt; simp only [putF]; rfl
      case h =>
      intro w_27 pt hn hC hF hD
      clear hC
      clear f1 f2
      replace x_b2 := x_b2.bl hn; replace hx := hx.bl hn; replace x_b3 := x_b3.bl hn; replace hq1 := hq1.bl hn; replace hq2 := hq2.bl hn; replace x_b4 := x_b4.bl hn; replace x_b5 := x_b5.bl hn; replace r1 := r1.bl hn; replace r2 := r2.bl hn; replace x_b6 := x_b6.bl hn; replace e1 := e1.bl hn; replace e2 := e2.bl hn; replace c1 := c1.bl hn; replace c2 := c2.bl hn; replace hb := tm hb hn
      clear hn
      clear hF hD
      clear pt
      clear kb0 lt_b2 lt_b3 lt_b4 lt_b5 lt_b6
      refine tc fun K hK => ?_
      obtain ⟨d0, d1, d2, d3⟩ := x_b6.f4
      have f0 := x_b6.free 0; have f1 := x_b6.free 1; have f2 := x_b6.free 2; have f3 := x_b6.free 3
      go_big_op
      have hnd := x_b6.nod rfl rfl
      obtain ⟨w_28, eW, x_b6', ho⟩ : ∃ w', ((((w_27.setCell ⟨p_b6, 0, none⟩ (.bool n_ca)).setCell ⟨p_b6, 1, none⟩ (.slice o_ca k_ca c_ca)).setCell ⟨p_b6, 2, none⟩ (.bool n_cb)).setCell ⟨p_b6, 3, none⟩ (.slice o_cb k_cb c_cb)) = w' ∧ Bs w' p_b6 #[.bool n_ca, .slice o_ca k_ca c_ca, .bool n_cb, .slice o_cb k_cb c_cb] 26 ∧ Only p_b6 w_27 w' := x_b6.setN [(0, .bool n_ca), (1, .slice o_ca k_ca c_ca), (2, .bool n_cb), (3, .slice o_cb k_cb c_cb)]
      rw [eW]; clear eW d0 d1 d2 d3 f0 f1 f2 f3 x_b6
      have x_b6 := x_b6'; clear x_b6'
      clear e1 e2
      replace x_b2 := x_b2.frame ho ne_b2_b6; replace hx := hx.fr hnd ho; replace x_b3 := x_b3.frame ho ne_b3_b6; replace hq1 := hq1.fr hnd ho; replace hq2 := hq2.fr hnd ho; replace x_b4 := x_b4.frame ho ne_b4_b6; replace x_b5 := x_b5.frame ho ne_b5_b6; replace r1 := r1.fr hnd ho; replace r2 := r2.fr hnd ho; replace c1 := c1.fr hnd ho; replace c2 := c2.fr hnd ho; replace hb := belowOnly hb ho kb_b6
      refine hK _ _ rfl (And.intro True.intro (And.intro ⟨x_b5.cell 0 rfl, x_b5.cell 1 rfl, x_b5.cell 2 rfl, x_b5.cell 3 rfl⟩ (And.intro ⟨x_b3.cell 0 rfl, x_b3.cell 1 rfl, x_b3.cell 2 rfl, x_b3.cell 3 rfl⟩ True.intro))) ?_; clear hK K ho hnd
      apply wpTail_end
      refine hK9 _ _ ?_
      refine wp_region_sq [0, 1, 2] (by kernel_rfl) ?_
      refine sc fun K hK => ?_
      go_big_move; refine hK _ _ rfl ?_; clear hK K
      refine sc fun K hK => ?_
      go_big_op; refine hK _ _ rfl ?_; clear hK K
      refine sc fun K hK => ?_
      go_big_move; refine hK _ _ rfl ?_; clear hK K
      apply wpSq_end
      refine ‹∀ (a' : Act) (w' : World), Handed _ _ a' w' → _› _ _ ?_
      go_roundg i
      case rel => exact ⟨by rfl, by omega, _, _, _, _, _, _, _, _, x_b6, c1, c2, x_b2, x_b3, x_b4, x_b5, hx, hq1, hq2, r1, r2, hb⟩
      case measure => omega
    · have HBT := hide (show z.natAbs / 2 ^ i % 2 = 0 by omega)
      have HE := hide (show 2 * (z.natAbs / 2 ^ (i + 1)) = z.natAbs / 2 ^ i by have h := HU.out; rw [HBT.out] at h; exact h.symm)
      clear hbit
      refine wp_seq_k ?_
      intro K7 hK7
      refine wp_seq_k ?_
      intro K8 hK8
      refine wp_region_sq [0, 1] (by kernel_rfl) ?_
      refine sc fun K hK => ?_
      go_big_move; refine hK _ _ rfl ?_; clear hK K
      refine sc fun K hK => ?_
      go_big_op; refine hK _ _ rfl ?_; clear hK K
      apply wpSq_end
      refine hK8 _ _ ?_
      refine wp_cond_true (congrArg Value.bool (show _ = true from (by first | rfl | assumption | (simp; done) | exact decide_eq_true (by omega) | omega))) ?_
      refine wp_skip ?_
      refine hK7 _ _ ?_
      refine wp_seq_k ?_
      intro K9 hK9
      refine wp_block ?_
      refine wp_seq_k ?_
      intro K10 hK10
      refine wp_region_fl2 [(0, false), (1, false), (3, false), (2, true), (4, true)] [5] [] (fun _ => default) [0, 0, 99, 1, 99, 99] [(5, 0)] (fun w' => w'.cell? ⟨p_b6, 0, none⟩ = some (.bool g1n) ∧ w'.cell? ⟨p_b6, 1, none⟩ = some (.slice g1o g1k g1c) ∧ w'.cell? ⟨p_b6, 2, none⟩ = some (.bool g2n) ∧ w'.cell? ⟨p_b6, 3, none⟩ = some (.slice g2o g2k g2c) ∧ w'.cell? ⟨p_b3, 0, none⟩ = some (.bool n_2a) ∧ w'.cell? ⟨p_b3, 1, none⟩ = some (.slice o_2a k_2a c_2a) ∧ w'.cell? ⟨p_b3, 2, none⟩ = some (.bool n_2b) ∧ w'.cell? ⟨p_b3, 3, none⟩ = some (.slice o_2b k_2b c_2b)) [fun w' => w'.cell? ⟨p_b6, 0, none⟩ = some (.bool g1n) ∧ w'.cell? ⟨p_b6, 1, none⟩ = some (.slice g1o g1k g1c) ∧ w'.cell? ⟨p_b6, 2, none⟩ = some (.bool g2n) ∧ w'.cell? ⟨p_b6, 3, none⟩ = some (.slice g2o g2k g2c), fun w' => w'.cell? ⟨p_b3, 0, none⟩ = some (.bool n_2a) ∧ w'.cell? ⟨p_b3, 1, none⟩ = some (.slice o_2a k_2a c_2a) ∧ w'.cell? ⟨p_b3, 2, none⟩ = some (.bool n_2b) ∧ w'.cell? ⟨p_b3, 3, none⟩ = some (.slice o_2b k_2b c_2b)] (by kernel_rfl) (by kernel_rfl) (by kernel_rfl) (by kernel_rfl) (by kernel_rfl) (by kernel_rfl) (by kernel_rfl) (by kernel_rfl) (by decide) (by intro j hj; cases hj) (by intro w' o hC; obtain ⟨c0, c1, c2, c3, c4, c5, c6, c7⟩ := hC; exact ⟨cell_alloc c0 o, cell_alloc c1 o, cell_alloc c2 o, cell_alloc c3 o, cell_alloc c4 o, cell_alloc c5 o, cell_alloc c6 o, cell_alloc c7 o⟩) (by intro w' hC G hG; obtain ⟨c0, c1, c2, c3, c4, c5, c6, c7⟩ := hC; simp only [List.mem_cons, List.not_mem_nil, or_false] at hG; rcases hG with rfl | rfl <;> first | exact ⟨c0, c1, c2, c3⟩ | exact ⟨c4, c5, c6, c7⟩) ?_
      have lt_b2 := x_b2.lt
      have lt_b3 := x_b3.lt
      have lt_b4 := x_b4.lt
      have lt_b5 := x_b5.lt
      have lt_b6 := x_b6.lt
      intro w_15 hn
      replace lt_b2 := Nat.lt_of_lt_of_le lt_b2 hn.size
      replace lt_b3 := Nat.lt_of_lt_of_le lt_b3 hn.size
      replace lt_b4 := Nat.lt_of_lt_of_le lt_b4 hn.size
      replace lt_b5 := Nat.lt_of_lt_of_le lt_b5 hn.size
      replace lt_b6 := Nat.lt_of_lt_of_le lt_b6 hn.size
      replace x_b2 := x_b2.bl hn; replace hx := hx.bl hn; replace x_b3 := x_b3.bl hn; replace hq1 := hq1.bl hn; replace hq2 := hq2.bl hn; replace x_b4 := x_b4.bl hn; replace x_b5 := x_b5.bl hn; replace r1 := r1.bl hn; replace r2 := r2.bl hn; replace x_b6 := x_b6.bl hn; replace g1 := g1.bl hn; replace g2 := g2.bl hn; replace hb := tm hb hn
      clear hn
      have kb0 := hb.size
      refine ⟨⟨x_b6.cell 0 rfl, x_b6.cell 1 rfl, x_b6.cell 2 rfl, x_b6.cell 3 rfl, x_b3.cell 0 rfl, x_b3.cell 1 rfl, x_b3.cell 2 rfl, x_b3.cell 3 rfl⟩, ?_⟩
      apply wpFl_ld rfl rfl; (case h1 => intro w' hC K hK; obtain ⟨c0, c1, c2, c3⟩ := hC; go_big_op; exact hK); iterate 4 kernel_rfl
      apply wpFl_ld rfl rfl; (case h1 => intro w' hC K hK; obtain ⟨c0, c1, c2, c3⟩ := hC; go_big_op; exact hK); iterate 4 kernel_rfl
      apply wpFl_ld rfl rfl; (case h1 => intro w' hC K hK; obtain ⟨c0, c1, c2, c3⟩ := hC; go_big_op; exact hK); iterate 4 kernel_rfl
      refine wpFl_call rfl (by kernel_rfl) fun w_16 hn hC => ?_; clear hC
      replace x_b2 := x_b2.bl hn; replace hx := hx.bl hn; replace x_b3 := x_b3.bl hn; replace hq1 := hq1.bl hn; replace hq2 := hq2.bl hn; replace x_b4 := x_b4.bl hn; replace x_b5 := x_b5.bl hn; replace r1 := r1.bl hn; replace r2 := r2.bl hn; replace x_b6 := x_b6.bl hn; replace g1 := g1.bl hn; replace g2 := g2.bl hn; replace hb := tm hb hn
      clear hn; intro K hK
      go_big_op
      go_fit (gMul_any (PN.mk' (g1.zn Lg1.out) (g2.zn Lg2.out)) (PN.mk' (g1.zn Lg1.out) (g2.zn Lg2.out)) (by omega) (by omega) (by omega) (by omega) )
      rintro e w_17 ⟨_, rfl, ⟨n_ma, o_ma, k_ma, c_ma, n_mb, o_mb, k_mb, c_mb, rfl, m1, m2⟩, hb_17⟩
      replace x_b2 := x_b2.bl hb_17; replace hx := hx.bl hb_17; replace x_b3 := x_b3.bl hb_17; replace hq1 := hq1.bl hb_17; replace hq2 := hq2.bl hb_17; replace x_b4 := x_b4.bl hb_17; replace x_b5 := x_b5.bl hb_17; replace r1 := r1.bl hb_17; replace r2 := r2.bl hb_17; replace x_b6 := x_b6.bl hb_17; replace g1 := g1.bl hb_17; replace g2 := g2.bl hb_17; replace hb := tm hb hb_17
      have Lm1 := hide (m1.lenOf (zlen_sub (zlen_mul (Lg1.out) (Lg1.out)) (zlen_mul (Lg2.out) (Lg2.out))))
      have Lm2 := hide (m2.lenOf (zlen_add (zlen_mul (Lg1.out) (Lg2.out)) (zlen_mul (Lg2.out) (Lg1.out))))
      refine hK _ _ rfl hb_17 ⟨x_b6.cell 0 rfl, x_b6.cell 1 rfl, x_b6.cell 2 rfl, x_b6.cell 3 rfl, x_b3.cell 0 rfl, x_b3.cell 1 rfl, x_b3.cell 2 rfl, x_b3.cell 3 rfl⟩ ?_
      clear hK K hb_17
      refine wpFl_call rfl (by kernel_rfl) fun w_18 hn hC => ?_; clear hC
      replace x_b2 := x_b2.bl hn; replace hx := hx.bl hn; replace x_b3 := x_b3.bl hn; replace hq1 := hq1.bl hn; replace hq2 := hq2.bl hn; replace x_b4 := x_b4.bl hn; replace x_b5 := x_b5.bl hn; replace r1 := r1.bl hn; replace r2 := r2.bl hn; replace x_b6 := x_b6.bl hn; replace g1 := g1.bl hn; replace g2 := g2.bl hn; replace m1 := m1.bl hn; replace m2 := m2.bl hn; replace hb := tm hb hn
      clear hn; intro K hK
      go_big_op
      go_fit (res_any (PN.mk' (m1.zn Lm1.out) (m2.zn Lm2.out)) (PN.mk' hq1 hq2) (by omega) (by omega) (by omega) H0.out)
      rintro e w_19 ⟨_, rfl, ⟨n_ea, o_ea, k_ea, c_ea, n_eb, o_eb, k_eb, c_eb, rfl, e1, e2⟩, hb_19⟩
      replace x_b2 := x_b2.bl hb_19; replace hx := hx.bl hb_19; replace x_b3 := x_b3.bl hb_19; replace hq1 := hq1.bl hb_19; replace hq2 := hq2.bl hb_19; replace x_b4 := x_b4.bl hb_19; replace x_b5 := x_b5.bl hb_19; replace r1 := r1.bl hb_19; replace r2 := r2.bl hb_19; replace x_b6 := x_b6.bl hb_19; replace g1 := g1.bl hb_19; replace g2 := g2.bl hb_19; replace m1 := m1.bl hb_19; replace m2 := m2.bl hb_19; replace hb := tm hb hb_19
      have Le1 := hide (e1.lenOf (res_len1 (H0.out) (hq1.len) (hq2.len)))
      have Le2 := hide (e2.lenOf (res_len2 (H0.out) (hq1.len) (hq2.len)))
      rw [HD.out.1, HE.out] at e1
      rw [HD.out.2, HE.out] at e2
      refine hK _ _ rfl hb_19 ⟨x_b6.cell 0 rfl, x_b6.cell 1 rfl, x_b6.cell 2 rfl, x_b6.cell 3 rfl, x_b3.cell 0 rfl, x_b3.cell 1 rfl, x_b3.cell 2 rfl, x_b3.cell 3 rfl⟩ ?_
      clear hK K hb_19
      apply wpFl_end
      case ha => intro pt; simp only [putF]; rfl
      case h =>
      intro w_20 pt hn hC hF hD
      clear hC
      clear m1 m2
      replace x_b2 := x_b2.bl hn; replace hx := hx.bl hn; replace x_b3 := x_b3.bl hn; replace hq1 := hq1.bl hn; replace hq2 := hq2.bl hn; replace x_b4 := x_b4.bl hn; replace x_b5 := x_b5.bl hn; replace r1 := r1.bl hn; replace r2 := r2.bl hn; replace x_b6 := x_b6.bl hn; replace g1 := g1.bl hn; replace g2 := g2.bl hn; replace e1 := e1.bl hn; replace e2 := e2.bl hn; replace hb := tm hb hn
      clear hn
      clear hF hD
      clear pt
      clear kb0 lt_b2 lt_b3 lt_b4 lt_b5 lt_b6
      refine tc fun K hK => ?_
      obtain ⟨d0, d1, d2, d3⟩ := x_b6.f4
      have f0 := x_b6.free 0; have f1 := x_b6.free 1; have f2 := x_b6.free 2; have f3 := x_b6.free 3
      go_big_op
      have hnd := x_b6.nod rfl rfl
      obtain ⟨w_21, eW, x_b6', ho⟩ : ∃ w', ((((w_20.setCell ⟨p_b6, 0, none⟩ (.bool n_ea)).setCell ⟨p_b6, 1, none⟩ (.slice o_ea k_ea c_ea)).setCell ⟨p_b6, 2, none⟩ (.bool n_eb)).setCell ⟨p_b6, 3, none⟩ (.slice o_eb k_eb c_eb)) = w' ∧ Bs w' p_b6 #[.bool n_ea, .slice o_ea k_ea c_ea, .bool n_eb, .slice o_eb k_eb c_eb] 26 ∧ Only p_b6 w_20 w' := x_b6.setN [(0, .bool n_ea), (1, .slice o_ea k_ea c_ea), (2, .bool n_eb), (3, .slice o_eb k_eb c_eb)]
      rw [eW]; clear eW d0 d1 d2 d3 f0 f1 f2 f3 x_b6
      have x_b6 := x_b6'; clear x_b6'
      clear g1 g2
      replace x_b2 := x_b2.frame ho ne_b2_b6; replace hx := hx.fr hnd ho; replace x_b3 := x_b3.frame ho ne_b3_b6; replace hq1 := hq1.fr hnd ho; replace hq2 := hq2.fr hnd ho; replace x_b4 := x_b4.frame ho ne_b4_b6; replace x_b5 := x_b5.frame ho ne_b5_b6; replace r1 := r1.fr hnd ho; replace r2 := r2.fr hnd ho; replace e1 := e1.fr hnd ho; replace e2 := e2.fr hnd ho; replace hb := belowOnly hb ho kb_b6
      refine hK _ _ rfl (And.intro True.intro (And.intro ⟨x_b3.cell 0 rfl, x_b3.cell 1 rfl, x_b3.cell 2 rfl, x_b3.cell 3 rfl⟩ True.intro)) ?_; clear hK K ho hnd
      apply wpTail_end
      refine hK10 _ _ ?_
      refine wp_seq_k ?_
      intro K11 hK11
      refine wp_region_sq [0, 1, 2, 3, 4, 5, 6, 7, 8, 9, 10] (by kernel_rfl) ?_
      obtain ⟨bb, boff, dd, hd1, hd2, hd3, hd4, hd5, hd6⟩ := hx.bit (i := i) (by rw [HB.out]; omega)
      have hsh : bits .and .u32 ((dd : Int) / 2 ^ (i % 32)) 1 = ((z.natAbs / 2 ^ i % 2 : Nat) : Int) := by rw [u32_and_one, ← hd6]; simp
      rw [HBT.out] at hsh
      refine sc fun K hK => ?_
      go_big_op; refine hK _ _ rfl ?_; clear hK K
      refine sc fun K hK => ?_
      obtain ⟨d0, d1⟩ := x_b2.f2
      go_big_op; refine hK _ _ rfl ?_; clear hK K d0 d1
      refine sc fun K hK => ?_
      go_big_move; refine hK _ _ rfl ?_; clear hK K
      refine sc fun K hK => ?_
      go_big_op; refine hK _ _ rfl ?_; clear hK K
      refine sc fun K hK => ?_
      go_big_op; refine hK _ _ rfl ?_; clear hK K
      refine sc fun K hK => ?_
      go_big_op; refine hK _ _ rfl ?_; clear hK K
      refine sc fun K hK => ?_
      go_big_move; refine hK _ _ rfl ?_; clear hK K
      refine sc fun K hK => ?_
      go_big_op; refine hK _ _ rfl ?_; clear hK K
      refine sc fun K hK => ?_
      go_big_op; refine hK _ _ rfl ?_; clear hK K
      refine sc fun K hK => ?_
      go_big_op; refine hK _ _ rfl ?_; clear hK K
      refine sc fun K hK => ?_
      go_big_op; refine hK _ _ rfl ?_; clear hK K
      apply wpSq_end
      refine hK11 _ _ ?_
      have Le1 := hide (e1.lenOf ((LP.out _).1))
      have Le2 := hide (e2.lenOf ((LP.out _).2))
      refine wp_cond_false (congrArg Value.bool (show _ = false from (by first | rfl | assumption | (simp; done) | exact decide_eq_false (by omega) | omega))) ?_
      refine wp_skip ?_
      refine hK9 _ _ ?_
      refine wp_region_sq [0, 1, 2] (by kernel_rfl) ?_
      refine sc fun K hK => ?_
      go_big_move; refine hK _ _ rfl ?_; clear hK K
      refine sc fun K hK => ?_
      go_big_op; refine hK _ _ rfl ?_; clear hK K
      refine sc fun K hK => ?_
      go_big_move; refine hK _ _ rfl ?_; clear hK K
      apply wpSq_end
      refine ‹∀ (a' : Act) (w' : World), Handed _ _ a' w' → _› _ _ ?_
      go_roundg i
      case rel => exact ⟨by rfl, by omega, _, _, _, _, _, _, _, _, x_b6, e1, e2, x_b2, x_b3, x_b4, x_b5, hx, hq1, hq2, r1, r2, hb⟩
      case measure => omega
theorem power_zero (ha : PN w va x l y m) (hx : ZN w vn z s) (hq : PN w vb 0 k 0 n) (hl : l ≤ 2200000) (hm : m ≤ 2200000) (hk : k ≤ 2200000) (hn : n ≤ 2200000) :
    Calls Try.prog 34 #[va, vn, vb] w fun e w' => e = .panicked [{ v := .iface 27 (.int .i64 5), recovered := false }] ∧ Below w.heap.size w w' := by
  have LL := And.intro hk hn
  clear hk hn
  obtain ⟨n_0a, o_0a, k_0a, c_0a, n_0b, o_0b, k_0b, c_0b, rfl, ha1, ha2⟩ := ha
  obtain ⟨n_1, o_1, k_1, c_1, rfl⟩ := hx.open2
  obtain ⟨n_2a, o_2a, k_2a, c_2a, n_2b, o_2b, k_2b, c_2b, rfl, hq1, hq2⟩ := hq
  go_enter Try.func34, Try.ntmps34
  have hb := Below.refl w.heap.size w
  obtain ⟨IX, hIX⟩ : ∃ I : Pn.PX, ∀ ch w', I.X ch w' ↔ (ch = [{ v := .iface 27 (.int .i64 5), recovered := false }] ∧ Below w.heap.size w w') := ⟨⟨_⟩, fun _ _ => Iff.rfl⟩
  refine wp_seq_k ?_
  intro K1 hK1
  refine Pn.wp_region_sq [0, 1, 2, 3] (fun ch a' w' hd hx => And.intro hd (And.intro (congrArg Ending.panicked ((hIX ch w').1 hx).1) ((hIX ch w').1 hx).2)) (by kernel_rfl) ?_
  refine Pn.wpSq_call rfl (by kernel_rfl) fun K hK => ?_
  go_big_op
  obtain ⟨p_b1, w_1, eP, eW, x_b1, hn, kb_b1⟩ := newBox w #[.bool n_0a, .slice o_0a k_0a c_0a, .bool n_0b, .slice o_0b k_0b c_0b] 26 hb.size
  rw [eW, eP]
  clear eW eP
  replace ha1 := ha1.bl hn; replace ha2 := ha2.bl hn; replace hx := hx.bl hn; replace hq1 := hq1.bl hn; replace hq2 := hq2.bl hn; replace hb := tm hb hn
  refine hK _ _ rfl ?_; clear hK K hn
  refine Pn.wpSq_call rfl (by kernel_rfl) fun K hK => ?_
  go_big_op
  have lt_b1 := x_b1.lt
  obtain ⟨p_b2, w_2, eP, eW, x_b2, hn, kb_b2⟩ := newBox w_1 #[.bool n_1, .slice o_1 k_1 c_1] 24 hb.size
  rw [eW, eP]
  clear eW eP lt_b1
  replace ha1 := ha1.bl hn; replace ha2 := ha2.bl hn; replace hx := hx.bl hn; replace hq1 := hq1.bl hn; replace hq2 := hq2.bl hn; replace x_b1 := x_b1.bl hn; replace hb := tm hb hn
  refine hK _ _ rfl ?_; clear hK K hn
  refine Pn.wpSq_call rfl (by kernel_rfl) fun K hK => ?_
  go_big_op
  have lt_b1 := x_b1.lt
  have lt_b2 := x_b2.lt
  obtain ⟨p_b3, w_3, eP, eW, x_b3, hn, kb_b3⟩ := newBox w_2 #[.bool n_2a, .slice o_2a k_2a c_2a, .bool n_2b, .slice o_2b k_2b c_2b] 26 hb.size
  rw [eW, eP]
  clear eW eP lt_b1 lt_b2
  replace ha1 := ha1.bl hn; replace ha2 := ha2.bl hn; replace hx := hx.bl hn; replace hq1 := hq1.bl hn; replace hq2 := hq2.bl hn; replace x_b1 := x_b1.bl hn; replace x_b2 := x_b2.bl hn; replace hb := tm hb hn
  refine hK _ _ rfl ?_; clear hK K hn
  refine Pn.wpSq_call rfl (by kernel_rfl) fun K hK => ?_
  go_big_op
  have lt_b1 := x_b1.lt
  have lt_b2 := x_b2.lt
  have lt_b3 := x_b3.lt
  obtain ⟨p_b4, w_4, eP, eW, x_b4, hn, kb_b4⟩ := newBox w_3 #[.bool false, .slice none 0 0, .bool false, .slice none 0 0] 26 hb.size
  rw [eW, eP]
  clear eW eP lt_b1 lt_b2 lt_b3
  replace ha1 := ha1.bl hn; replace ha2 := ha2.bl hn; replace hx := hx.bl hn; replace hq1 := hq1.bl hn; replace hq2 := hq2.bl hn; replace x_b1 := x_b1.bl hn; replace x_b2 := x_b2.bl hn; replace x_b3 := x_b3.bl hn; replace hb := tm hb hn
  refine hK _ _ rfl ?_; clear hK K hn
  apply Pn.wpSq_end
  refine hK1 _ _ ?_
  refine wp_seq_k ?_
  intro K2 hK2
  refine Pn.wp_region_fl2 [(0, false), (1, false), (3, false), (2, true), (4, true)] [7, 8] [5, 6] (fun j => if j = 5 then (.cells #[.bool false, .slice none 0 0, .bool false, .slice none 0 0] 26) else (.cells #[.bool false, .slice none 0 0, .bool false, .slice none 0 0] 26)) [0, 1, 99, 1, 99, 99, 99, 99, 99] [] (fun w' => w'.cell? ⟨p_b1, 0, none⟩ = some (.bool n_0a) ∧ w'.cell? ⟨p_b1, 1, none⟩ = some (.slice o_0a k_0a c_0a) ∧ w'.cell? ⟨p_b1, 2, none⟩ = some (.bool n_0b) ∧ w'.cell? ⟨p_b1, 3, none⟩ = some (.slice o_0b k_0b c_0b) ∧ w'.cell? ⟨p_b3, 0, none⟩ = some (.bool n_2a) ∧ w'.cell? ⟨p_b3, 1, none⟩ = some (.slice o_2a k_2a c_2a) ∧ w'.cell? ⟨p_b3, 2, none⟩ = some (.bool n_2b) ∧ w'.cell? ⟨p_b3, 3, none⟩ = some (.slice o_2b k_2b c_2b)) [fun w' => w'.cell? ⟨p_b1, 0, none⟩ = some (.bool n_0a) ∧ w'.cell? ⟨p_b1, 1, none⟩ = some (.slice o_0a k_0a c_0a) ∧ w'.cell? ⟨p_b1, 2, none⟩ = some (.bool n_0b) ∧ w'.cell? ⟨p_b1, 3, none⟩ = some (.slice o_0b k_0b c_0b), fun w' => w'.cell? ⟨p_b3, 0, none⟩ = some (.bool n_2a) ∧ w'.cell? ⟨p_b3, 1, none⟩ = some (.slice o_2a k_2a c_2a) ∧ w'.cell? ⟨p_b3, 2, none⟩ = some (.bool n_2b) ∧ w'.cell? ⟨p_b3, 3, none⟩ = some (.slice o_2b k_2b c_2b)] (fun ch a' w' hd hx => And.intro hd (And.intro (congrArg Ending.panicked ((hIX ch w').1 hx).1) ((hIX ch w').1 hx).2)) (by kernel_rfl) (by kernel_rfl) (by kernel_rfl) (by kernel_rfl) (by kernel_rfl) (by kernel_rfl) (by kernel_rfl) (by kernel_rfl) (by decide) (by intro j hj; simp only [List.mem_cons, List.not_mem_nil, or_false] at hj; rcases hj with rfl | rfl; all_goals exact ⟨_, rfl, rfl, fun ρ w => by unfold ptr; simp [go_sem]⟩) (by intro w' o hC; obtain ⟨c0, c1, c2, c3, c4, c5, c6, c7⟩ := hC; exact ⟨cell_alloc c0 o, cell_alloc c1 o, cell_alloc c2 o, cell_alloc c3 o, cell_alloc c4 o, cell_alloc c5 o, cell_alloc c6 o, cell_alloc c7 o⟩) (by intro w' hC G hG; obtain ⟨c0, c1, c2, c3, c4, c5, c6, c7⟩ := hC; simp only [List.mem_cons, List.not_mem_nil, or_false] at hG; rcases hG with rfl | rfl <;> first | exact ⟨c0, c1, c2, c3⟩ | exact ⟨c4, c5, c6, c7⟩) ?_
  have lt_b1 := x_b1.lt
  have lt_b2 := x_b2.lt
  have lt_b3 := x_b3.lt
  have lt_b4 := x_b4.lt
  intro w_5 hn
  replace lt_b1 := Nat.lt_of_lt_of_le lt_b1 hn.size
  replace lt_b2 := Nat.lt_of_lt_of_le lt_b2 hn.size
  replace lt_b3 := Nat.lt_of_lt_of_le lt_b3 hn.size
  replace lt_b4 := Nat.lt_of_lt_of_le lt_b4 hn.size
  replace ha1 := ha1.bl hn; replace ha2 := ha2.bl hn; replace hx := hx.bl hn; replace hq1 := hq1.bl hn; replace hq2 := hq2.bl hn; replace x_b1 := x_b1.bl hn; replace x_b2 := x_b2.bl hn; replace x_b3 := x_b3.bl hn; replace x_b4 := x_b4.bl hn; replace hb := tm hb hn
  clear hn
  have kb0 := hb.size
  refine ⟨⟨x_b1.cell 0 rfl, x_b1.cell 1 rfl, x_b1.cell 2 rfl, x_b1.cell 3 rfl, x_b3.cell 0 rfl, x_b3.cell 1 rfl, x_b3.cell 2 rfl, x_b3.cell 3 rfl⟩, ?_⟩
  apply Pn.wpFl_ld rfl rfl; (case h1 => intro w' hC K hK; obtain ⟨c0, c1, c2, c3⟩ := hC; go_big_op; exact hK); iterate 4 kernel_rfl
  apply Pn.wpFl_ld rfl rfl; (case h1 => intro w' hC K hK; obtain ⟨c0, c1, c2, c3⟩ := hC; go_big_op; exact hK); iterate 4 kernel_rfl
  apply Pn.wpFl_ld rfl rfl; (case h1 => intro w' hC K hK; obtain ⟨c0, c1, c2, c3⟩ := hC; go_big_op; exact hK); iterate 4 kernel_rfl
  refine Pn.wpFl_call rfl (by kernel_rfl) fun w_6 hn hC => ?_; clear hC
  replace ha1 := ha1.bl hn; replace ha2 := ha2.bl hn; replace hx := hx.bl hn; replace hq1 := hq1.bl hn; replace hq2 := hq2.bl hn; replace x_b1 := x_b1.bl hn; replace x_b2 := x_b2.bl hn; replace x_b3 := x_b3.bl hn; replace x_b4 := x_b4.bl hn; replace hb := tm hb hn
  clear hn; intro K hK
  clear hK
  go_big_op
  go_fit (res_zero (.mk' ha1 ha2) (.mk' hq1 hq2) (by omega) (by omega) (by omega) (by omega))
  rintro e w_7 ⟨rfl, hb_7⟩
  exact (hIX _ _).2 ⟨rfl, tm hb hb_7⟩
theorem power_neg {L : Nat} (ha : PN w va x l y m) (hx : ZN w vn z s) (hq : PN w vb u L v L) (hl : l ≤ 2200000) (hm : m ≤ 2200000) (hs : s ≤ 2200000) (hL : L ≤ 1100000) (h0 : gN u v ≠ 0) (hz : z < 0) :
    Calls Try.prog 34 #[va, vn, vb] w fun e w' => e = .panicked [{ v := .iface 27 (.int .i64 9), recovered := false }] ∧ Below w.heap.size w w' := by
  have HH := hide (And.intro h0 (Int.sign_eq_neg_one_of_neg hz))
  clear h0 hz
  obtain ⟨n_0a, o_0a, k_0a, c_0a, n_0b, o_0b, k_0b, c_0b, rfl, ha1, ha2⟩ := ha
  obtain ⟨n_1, o_1, k_1, c_1, rfl⟩ := hx.open2
  obtain ⟨n_2a, o_2a, k_2a, c_2a, n_2b, o_2b, k_2b, c_2b, rfl, hq1, hq2⟩ := hq
  go_enter Try.func34, Try.ntmps34
  have hb := Below.refl w.heap.size w
  obtain ⟨IX, hIX⟩ : ∃ I : Pn.PX, ∀ ch w', I.X ch w' ↔ (ch = [{ v := .iface 27 (.int .i64 9), recovered := false }] ∧ Below w.heap.size w w') := ⟨⟨_⟩, fun _ _ => Iff.rfl⟩
  refine wp_seq_k ?_
  intro K1 hK1
  refine Pn.wp_region_sq [0, 1, 2, 3] (fun ch a' w' hd hx => And.intro hd (And.intro (congrArg Ending.panicked ((hIX ch w').1 hx).1) ((hIX ch w').1 hx).2)) (by kernel_rfl) ?_
  refine Pn.wpSq_call rfl (by kernel_rfl) fun K hK => ?_
  go_big_op
  obtain ⟨p_b1, w_1, eP, eW, x_b1, hn, kb_b1⟩ := newBox w #[.bool n_0a, .slice o_0a k_0a c_0a, .bool n_0b, .slice o_0b k_0b c_0b] 26 hb.size
  rw [eW, eP]
  clear eW eP
  replace ha1 := ha1.bl hn; replace ha2 := ha2.bl hn; replace hx := hx.bl hn; replace hq1 := hq1.bl hn; replace hq2 := hq2.bl hn; replace hb := tm hb hn
  refine hK _ _ rfl ?_; clear hK K hn
  refine Pn.wpSq_call rfl (by kernel_rfl) fun K hK => ?_
  go_big_op
  have lt_b1 := x_b1.lt
  obtain ⟨p_b2, w_2, eP, eW, x_b2, hn, kb_b2⟩ := newBox w_1 #[.bool n_1, .slice o_1 k_1 c_1] 24 hb.size
  rw [eW, eP]
  clear eW eP lt_b1
  replace ha1 := ha1.bl hn; replace ha2 := ha2.bl hn; replace hx := hx.bl hn; replace hq1 := hq1.bl hn; replace hq2 := hq2.bl hn; replace x_b1 := x_b1.bl hn; replace hb := tm hb hn
  refine hK _ _ rfl ?_; clear hK K hn
  refine Pn.wpSq_call rfl (by kernel_rfl) fun K hK => ?_
  go_big_op
  have lt_b1 := x_b1.lt
  have lt_b2 := x_b2.lt
  obtain ⟨p_b3, w_3, eP, eW, x_b3, hn, kb_b3⟩ := newBox w_2 #[.bool n_2a, .slice o_2a k_2a c_2a, .bool n_2b, .slice o_2b k_2b c_2b] 26 hb.size
  rw [eW, eP]
  clear eW eP lt_b1 lt_b2
  replace ha1 := ha1.bl hn; replace ha2 := ha2.bl hn; replace hx := hx.bl hn; replace hq1 := hq1.bl hn; replace hq2 := hq2.bl hn; replace x_b1 := x_b1.bl hn; replace x_b2 := x_b2.bl hn; replace hb := tm hb hn
  refine hK _ _ rfl ?_; clear hK K hn
  refine Pn.wpSq_call rfl (by kernel_rfl) fun K hK => ?_
  go_big_op
  have lt_b1 := x_b1.lt
  have lt_b2 := x_b2.lt
  have lt_b3 := x_b3.lt
  obtain ⟨p_b4, w_4, eP, eW, x_b4, hn, kb_b4⟩ := newBox w_3 #[.bool false, .slice none 0 0, .bool false, .slice none 0 0] 26 hb.size
  rw [eW, eP]
  clear eW eP lt_b1 lt_b2 lt_b3
  replace ha1 := ha1.bl hn; replace ha2 := ha2.bl hn; replace hx := hx.bl hn; replace hq1 := hq1.bl hn; replace hq2 := hq2.bl hn; replace x_b1 := x_b1.bl hn; replace x_b2 := x_b2.bl hn; replace x_b3 := x_b3.bl hn; replace hb := tm hb hn
  refine hK _ _ rfl ?_; clear hK K hn
  apply Pn.wpSq_end
  refine hK1 _ _ ?_
  refine wp_seq_k ?_
  intro K2 hK2
  refine Pn.wp_region_fl2 [(0, false), (1, false), (3, false), (2, true), (4, true)] [7, 8] [5, 6] (fun j => if j = 5 then (.cells #[.bool false, .slice none 0 0, .bool false, .slice none 0 0] 26) else (.cells #[.bool false, .slice none 0 0, .bool false, .slice none 0 0] 26)) [0, 1, 99, 1, 99, 99, 99, 99, 99] [] (fun w' => w'.cell? ⟨p_b1, 0, none⟩ = some (.bool n_0a) ∧ w'.cell? ⟨p_b1, 1, none⟩ = some (.slice o_0a k_0a c_0a) ∧ w'.cell? ⟨p_b1, 2, none⟩ = some (.bool n_0b) ∧ w'.cell? ⟨p_b1, 3, none⟩ = some (.slice o_0b k_0b c_0b) ∧ w'.cell? ⟨p_b3, 0, none⟩ = some (.bool n_2a) ∧ w'.cell? ⟨p_b3, 1, none⟩ = some (.slice o_2a k_2a c_2a) ∧ w'.cell? ⟨p_b3, 2, none⟩ = some (.bool n_2b) ∧ w'.cell? ⟨p_b3, 3, none⟩ = some (.slice o_2b k_2b c_2b)) [fun w' => w'.cell? ⟨p_b1, 0, none⟩ = some (.bool n_0a) ∧ w'.cell? ⟨p_b1, 1, none⟩ = some (.slice o_0a k_0a c_0a) ∧ w'.cell? ⟨p_b1, 2, none⟩ = some (.bool n_0b) ∧ w'.cell? ⟨p_b1, 3, none⟩ = some (.slice o_0b k_0b c_0b), fun w' => w'.cell? ⟨p_b3, 0, none⟩ = some (.bool n_2a) ∧ w'.cell? ⟨p_b3, 1, none⟩ = some (.slice o_2a k_2a c_2a) ∧ w'.cell? ⟨p_b3, 2, none⟩ = some (.bool n_2b) ∧ w'.cell? ⟨p_b3, 3, none⟩ = some (.slice o_2b k_2b c_2b)] (fun ch a' w' hd hx => And.intro hd (And.intro (congrArg Ending.panicked ((hIX ch w').1 hx).1) ((hIX ch w').1 hx).2)) (by kernel_rfl) (by kernel_rfl) (by kernel_rfl) (by kernel_rfl) (by kernel_rfl) (by kernel_rfl) (by kernel_rfl) (by kernel_rfl) (by decide) (by intro j hj; simp only [List.mem_cons, List.not_mem_nil, or_false] at hj; rcases hj with rfl | rfl; all_goals exact ⟨_, rfl, rfl, fun ρ w => by unfold ptr; simp [go_sem]⟩) (by intro w' o hC; obtain ⟨c0, c1, c2, c3, c4, c5, c6, c7⟩ := hC; exact ⟨cell_alloc c0 o, cell_alloc c1 o, cell_alloc c2 o, cell_alloc c3 o, cell_alloc c4 o, cell_alloc c5 o, cell_alloc c6 o, cell_alloc c7 o⟩) (by intro w' hC G hG; obtain ⟨c0, c1, c2, c3, c4, c5, c6, c7⟩ := hC; simp only [List.mem_cons, List.not_mem_nil, or_false] at hG; rcases hG with rfl | rfl <;> first | exact ⟨c0, c1, c2, c3⟩ | exact ⟨c4, c5, c6, c7⟩) ?_
  have lt_b1 := x_b1.lt
  have lt_b2 := x_b2.lt
  have lt_b3 := x_b3.lt
  have lt_b4 := x_b4.lt
  intro w_5 hn
  replace lt_b1 := Nat.lt_of_lt_of_le lt_b1 hn.size
  replace lt_b2 := Nat.lt_of_lt_of_le lt_b2 hn.size
  replace lt_b3 := Nat.lt_of_lt_of_le lt_b3 hn.size
  replace lt_b4 := Nat.lt_of_lt_of_le lt_b4 hn.size
  replace ha1 := ha1.bl hn; replace ha2 := ha2.bl hn; replace hx := hx.bl hn; replace hq1 := hq1.bl hn; replace hq2 := hq2.bl hn; replace x_b1 := x_b1.bl hn; replace x_b2 := x_b2.bl hn; replace x_b3 := x_b3.bl hn; replace x_b4 := x_b4.bl hn; replace hb := tm hb hn
  clear hn
  have kb0 := hb.size
  refine ⟨⟨x_b1.cell 0 rfl, x_b1.cell 1 rfl, x_b1.cell 2 rfl, x_b1.cell 3 rfl, x_b3.cell 0 rfl, x_b3.cell 1 rfl, x_b3.cell 2 rfl, x_b3.cell 3 rfl⟩, ?_⟩
  apply Pn.wpFl_ld rfl rfl; (case h1 => intro w' hC K hK; obtain ⟨c0, c1, c2, c3⟩ := hC; go_big_op; exact hK); iterate 4 kernel_rfl
  apply Pn.wpFl_ld rfl rfl; (case h1 => intro w' hC K hK; obtain ⟨c0, c1, c2, c3⟩ := hC; go_big_op; exact hK); iterate 4 kernel_rfl
  apply Pn.wpFl_ld rfl rfl; (case h1 => intro w' hC K hK; obtain ⟨c0, c1, c2, c3⟩ := hC; go_big_op; exact hK); iterate 4 kernel_rfl
  refine Pn.wpFl_call rfl (by kernel_rfl) fun w_6 hn hC => ?_; clear hC
  replace ha1 := ha1.bl hn; replace ha2 := ha2.bl hn; replace hx := hx.bl hn; replace hq1 := hq1.bl hn; replace hq2 := hq2.bl hn; replace x_b1 := x_b1.bl hn; replace x_b2 := x_b2.bl hn; replace x_b3 := x_b3.bl hn; replace x_b4 := x_b4.bl hn; replace hb := tm hb hn
  clear hn; intro K hK
  go_big_op
  go_fit (res_any (PN.mk' ha1 ha2) (PN.mk' hq1 hq2) (by omega) (by omega) (by omega) HH.out.1)
  rintro e w_7 ⟨_, rfl, ⟨n_ra, o_ra, k_ra, c_ra, n_rb, o_rb, k_rb, c_rb, rfl, r1, r2⟩, hb_7⟩
  replace ha1 := ha1.bl hb_7; replace ha2 := ha2.bl hb_7; replace hx := hx.bl hb_7; replace hq1 := hq1.bl hb_7; replace hq2 := hq2.bl hb_7; replace x_b1 := x_b1.bl hb_7; replace x_b2 := x_b2.bl hb_7; replace x_b3 := x_b3.bl hb_7; replace x_b4 := x_b4.bl hb_7; replace hb := tm hb hb_7
  refine hK _ _ rfl hb_7 ⟨x_b1.cell 0 rfl, x_b1.cell 1 rfl, x_b1.cell 2 rfl, x_b1.cell 3 rfl, x_b3.cell 0 rfl, x_b3.cell 1 rfl, x_b3.cell 2 rfl, x_b3.cell 3 rfl⟩ ?_
  clear hK K hb_7
  refine Pn.wpFl_call rfl (by kernel_rfl) fun w_8 hn hC => ?_; clear hC
  replace ha1 := ha1.bl hn; replace ha2 := ha2.bl hn; replace hx := hx.bl hn; replace hq1 := hq1.bl hn; replace hq2 := hq2.bl hn; replace x_b1 := x_b1.bl hn; replace x_b2 := x_b2.bl hn; replace x_b3 := x_b3.bl hn; replace x_b4 := x_b4.bl hn; replace r1 := r1.bl hn; replace r2 := r2.bl hn; replace hb := tm hb hn
  clear hn; intro K hK
  go_big_op
  go_fit (one_any (PN.mk' hq1 hq2) (by omega) HH.out.1)
  rintro e w_9 ⟨_, rfl, ⟨n_oa, o_oa, k_oa, c_oa, n_ob, o_ob, k_ob, c_ob, rfl, o1, o2⟩, hb_9⟩
  replace ha1 := ha1.bl hb_9; replace ha2 := ha2.bl hb_9; replace hx := hx.bl hb_9; replace hq1 := hq1.bl hb_9; replace hq2 := hq2.bl hb_9; replace x_b1 := x_b1.bl hb_9; replace x_b2 := x_b2.bl hb_9; replace x_b3 := x_b3.bl hb_9; replace x_b4 := x_b4.bl hb_9; replace r1 := r1.bl hb_9; replace r2 := r2.bl hb_9; replace hb := tm hb hb_9
  refine hK _ _ rfl hb_9 ⟨x_b1.cell 0 rfl, x_b1.cell 1 rfl, x_b1.cell 2 rfl, x_b1.cell 3 rfl, x_b3.cell 0 rfl, x_b3.cell 1 rfl, x_b3.cell 2 rfl, x_b3.cell 3 rfl⟩ ?_
  clear hK K hb_9
  apply Pn.wpFl_end
  case ha => intro pt; simp only [putF, nthO, Act.put, ptr, List.setIfInBounds_toArray, List.set_cons_succ, List.set_cons_zero]; rfl
  case h =>
  intro w_10 pt hn hC hF hD
  clear hC
  replace ha1 := ha1.bl hn; replace ha2 := ha2.bl hn; replace hx := hx.bl hn; replace hq1 := hq1.bl hn; replace hq2 := hq2.bl hn; replace x_b1 := x_b1.bl hn; replace x_b2 := x_b2.bl hn; replace x_b3 := x_b3.bl hn; replace x_b4 := x_b4.bl hn; replace r1 := r1.bl hn; replace r2 := r2.bl hn; replace o1 := o1.bl hn; replace o2 := o2.bl hn; replace hb := tm hb hn
  clear hn
  obtain ⟨kB_b5, x_b5⟩ := hF 5 (by decide)
  replace x_b5 : Bs w_10 (pt 5) #[.bool false, .slice none 0 0, .bool false, .slice none 0 0] 26 := x_b5
  obtain ⟨kB_b6, x_b6⟩ := hF 6 (by decide)
  replace x_b6 : Bs w_10 (pt 6) #[.bool false, .slice none 0 0, .bool false, .slice none 0 0] 26 := x_b6
  have ne_b5_b6 := hide (hD 5 (by decide) 6 (by decide) (by decide))
  clear hF hD
  generalize pt 5 = p_b5 at *
  generalize pt 6 = p_b6 at *
  clear pt
  have kb_b5 := hide (Nat.le_trans kb0 kB_b5)
  have ne_b1_b5 : Hid (p_b1 ≠ p_b5) := Nat.ne_of_lt (Nat.lt_of_lt_of_le lt_b1 kB_b5)
  have ne_b2_b5 : Hid (p_b2 ≠ p_b5) := Nat.ne_of_lt (Nat.lt_of_lt_of_le lt_b2 kB_b5)
  have ne_b3_b5 : Hid (p_b3 ≠ p_b5) := Nat.ne_of_lt (Nat.lt_of_lt_of_le lt_b3 kB_b5)
  have ne_b4_b5 : Hid (p_b4 ≠ p_b5) := Nat.ne_of_lt (Nat.lt_of_lt_of_le lt_b4 kB_b5)
  clear kB_b5
  have kb_b6 := hide (Nat.le_trans kb0 kB_b6)
  have ne_b1_b6 : Hid (p_b1 ≠ p_b6) := Nat.ne_of_lt (Nat.lt_of_lt_of_le lt_b1 kB_b6)
  have ne_b2_b6 : Hid (p_b2 ≠ p_b6) := Nat.ne_of_lt (Nat.lt_of_lt_of_le lt_b2 kB_b6)
  have ne_b3_b6 : Hid (p_b3 ≠ p_b6) := Nat.ne_of_lt (Nat.lt_of_lt_of_le lt_b3 kB_b6)
  have ne_b4_b6 : Hid (p_b4 ≠ p_b6) := Nat.ne_of_lt (Nat.lt_of_lt_of_le lt_b4 kB_b6)
  clear kB_b6
  clear kb0 lt_b1 lt_b2 lt_b3 lt_b4
  refine Pn.wpTail_call rfl (by kernel_rfl) fun K hK => ?_
  obtain ⟨d0, d1, d2, d3⟩ := x_b5.f4
  have f0 := x_b5.free 0; have f1 := x_b5.free 1; have f2 := x_b5.free 2; have f3 := x_b5.free 3
  go_big_op
  have hnd := x_b5.nod rfl rfl
  obtain ⟨w_11, eW, x_b5', ho⟩ : ∃ w', ((((w_10.setCell ⟨p_b5, 0, none⟩ (.bool n_ra)).setCell ⟨p_b5, 1, none⟩ (.slice o_ra k_ra c_ra)).setCell ⟨p_b5, 2, none⟩ (.bool n_rb)).setCell ⟨p_b5, 3, none⟩ (.slice o_rb k_rb c_rb)) = w' ∧ Bs w' p_b5 #[.bool n_ra, .slice o_ra k_ra c_ra, .bool n_rb, .slice o_rb k_rb c_rb] 26 ∧ Only p_b5 w_10 w' := x_b5.setN [(0, .bool n_ra), (1, .slice o_ra k_ra c_ra), (2, .bool n_rb), (3, .slice o_rb k_rb c_rb)]
  rw [eW]; clear eW d0 d1 d2 d3 f0 f1 f2 f3 x_b5
  have x_b5 := x_b5'; clear x_b5'
  replace ha1 := ha1.fr hnd ho; replace ha2 := ha2.fr hnd ho; replace hx := hx.fr hnd ho; replace hq1 := hq1.fr hnd ho; replace hq2 := hq2.fr hnd ho; replace x_b1 := x_b1.frame ho ne_b1_b5; replace x_b2 := x_b2.frame ho ne_b2_b5; replace x_b3 := x_b3.frame ho ne_b3_b5; replace x_b4 := x_b4.frame ho ne_b4_b5; replace r1 := r1.fr hnd ho; replace r2 := r2.fr hnd ho; replace o1 := o1.fr hnd ho; replace o2 := o2.fr hnd ho; replace x_b6 := x_b6.frame ho ne_b5_b6.symm; replace hb := belowOnly hb ho kb_b5
  refine hK _ _ rfl (And.intro ⟨x_b1.cell 0 rfl, x_b1.cell 1 rfl, x_b1.cell 2 rfl, x_b1.cell 3 rfl⟩ (And.intro ⟨x_b3.cell 0 rfl, x_b3.cell 1 rfl, x_b3.cell 2 rfl, x_b3.cell 3 rfl⟩ True.intro)) ?_; clear hK K ho hnd
  refine Pn.wpTail_call rfl (by kernel_rfl) fun K hK => ?_
  obtain ⟨d0, d1, d2, d3⟩ := x_b6.f4
  have f0 := x_b6.free 0; have f1 := x_b6.free 1; have f2 := x_b6.free 2; have f3 := x_b6.free 3
  go_big_op
  have hnd := x_b6.nod rfl rfl
  obtain ⟨w_12, eW, x_b6', ho⟩ : ∃ w', ((((w_11.setCell ⟨p_b6, 0, none⟩ (.bool n_oa)).setCell ⟨p_b6, 1, none⟩ (.slice o_oa k_oa c_oa)).setCell ⟨p_b6, 2, none⟩ (.bool n_ob)).setCell ⟨p_b6, 3, none⟩ (.slice o_ob k_ob c_ob)) = w' ∧ Bs w' p_b6 #[.bool n_oa, .slice o_oa k_oa c_oa, .bool n_ob, .slice o_ob k_ob c_ob] 26 ∧ Only p_b6 w_11 w' := x_b6.setN [(0, .bool n_oa), (1, .slice o_oa k_oa c_oa), (2, .bool n_ob), (3, .slice o_ob k_ob c_ob)]
  rw [eW]; clear eW d0 d1 d2 d3 f0 f1 f2 f3 x_b6
  have x_b6 := x_b6'; clear x_b6'
  replace ha1 := ha1.fr hnd ho; replace ha2 := ha2.fr hnd ho; replace hx := hx.fr hnd ho; replace hq1 := hq1.fr hnd ho; replace hq2 := hq2.fr hnd ho; replace x_b1 := x_b1.frame ho ne_b1_b6; replace x_b2 := x_b2.frame ho ne_b2_b6; replace x_b3 := x_b3.frame ho ne_b3_b6; replace x_b4 := x_b4.frame ho ne_b4_b6; replace r1 := r1.fr hnd ho; replace r2 := r2.fr hnd ho; replace o1 := o1.fr hnd ho; replace o2 := o2.fr hnd ho; replace x_b5 := x_b5.frame ho ne_b5_b6; replace hb := belowOnly hb ho kb_b6
  refine hK _ _ rfl (And.intro ⟨x_b1.cell 0 rfl, x_b1.cell 1 rfl, x_b1.cell 2 rfl, x_b1.cell 3 rfl⟩ (And.intro ⟨x_b3.cell 0 rfl, x_b3.cell 1 rfl, x_b3.cell 2 rfl, x_b3.cell 3 rfl⟩ True.intro)) ?_; clear hK K ho hnd
  apply Pn.wpTail_end
  refine hK2 _ _ ?_
  refine wp_seq_k ?_
  intro K3 hK3
  refine wp_seq_k ?_
  intro K4 hK4
  refine Pn.wp_region_sq [0, 1, 2] (fun ch a' w' hd hx => And.intro hd (And.intro (congrArg Ending.panicked ((hIX ch w').1 hx).1) ((hIX ch w').1 hx).2)) (by kernel_rfl) ?_
  refine Pn.wpSq_call rfl (by kernel_rfl) fun K hK => ?_
  obtain ⟨d0, d1⟩ := x_b2.f2
  go_big_op; refine hK _ _ rfl ?_; clear hK K d0 d1
  refine Pn.wpSq_call rfl (by kernel_rfl) fun K hK => ?_
  go_big_op
  go_fit (zsign_any hx (by omega) )
  rintro e w_13 ⟨rfl, hb_13⟩
  clear ha1 ha2 x_b1
  replace hx := hx.bl hb_13; replace hq1 := hq1.bl hb_13; replace hq2 := hq2.bl hb_13; replace x_b2 := x_b2.bl hb_13; replace x_b3 := x_b3.bl hb_13; replace x_b4 := x_b4.bl hb_13; replace r1 := r1.bl hb_13; replace r2 := r2.bl hb_13; replace o1 := o1.bl hb_13; replace o2 := o2.bl hb_13; replace x_b5 := x_b5.bl hb_13; replace x_b6 := x_b6.bl hb_13; replace hb := tm hb hb_13
  rw [HH.out.2]
  refine hK _ _ rfl ?_
  clear hK K hb_13
  refine Pn.wpSq_call rfl (by kernel_rfl) fun K hK => ?_
  go_big_op; refine hK _ _ rfl ?_; clear hK K
  apply Pn.wpSq_end
  refine hK4 _ _ ?_
  refine wp_cond_true (congrArg Value.bool (show _ = true from (by first | rfl | assumption | (simp; done) | exact decide_eq_true (by omega) | omega))) ?_
  refine Pn.wp_region_sq [0, 1] (fun ch a' w' hd hx => And.intro hd (And.intro (congrArg Ending.panicked ((hIX ch w').1 hx).1) ((hIX ch w').1 hx).2)) (by kernel_rfl) ?_
  refine Pn.wpSq_call rfl (by kernel_rfl) fun K hK => ?_
  go_big_op; refine hK _ _ rfl ?_; clear hK K
  refine Pn.wpSq_call rfl (by kernel_rfl) fun K hK => ?_
  clear hK
  go_big_op
  exact (hIX _ _).2 ⟨rfl, hb⟩
end
end Go.Proofs.Ytpdfahompajbjaa
