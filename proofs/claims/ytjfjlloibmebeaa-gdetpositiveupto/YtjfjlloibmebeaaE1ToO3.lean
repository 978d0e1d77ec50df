/- gdet: isSquare, isZero, what divides without a rest; calls that hand the state on. -/
import Derived.Test.YtjfjlloibmebeaaI5ToDp
import Derived.Test.YtjfjlloibmebeaaG4ToM7
import Derived.Laws.EntriesVeiled
import Derived.Test.YtjfjlloibmebeaaWkToMt

namespace Go.Proofs.Ytjfjlloibmebeaa
open Go Go.RowKit Dig
set_option linter.unusedVariables false
section
variable {w : World} {l m k n na ca : Nat} {oa : Option Addr} {A : List (List (Int × Int))} {va vb : Value} {x y u v : Int}
set_option maxHeartbeats 4000000 in
set_option maxRecDepth 20000 in
theorem isSquare_bad (ha : MN l w oa A) (hna : A.length = na) (h : ¬ gd A) (hla : na ≤ 1000000000) :
    Calls Try.prog 32 #[.slice oa na ca] w fun e w' => e = .returned (.bool false) ∧ Below w.heap.size w w' := by
  have HA := hide ha
  have H := hide h
  clear ha h
  go_enter Try.func32, Try.ntmps32
  have hs := St.nil w
  refine wp_seq_k ?_
  intro K1 hK1
  refine rg [0] ?_
  refine sq ?_
  refine .mv ?_
  apply wpSq_end
  refine hK1 _ _ ?_
  refine wp_seq_k ?_
  intro K2 hK2
  refine rg [0, 1, 2, 3, 4, 5, 6, 7, 8] ?_
  refine sq ?_
  refine .mv ?_
  refine sq ?_
  intro K hK
  have hb := hs.b
  go_big_op
  go_fit (mSize_bad (HA.out.bl stab_n hb) hna H.out hla)
  rintro e w_1 ⟨rfl, hb_1⟩
  clear hb
  replace hs := hs.bl hb_1
  refine hK _ _ rfl trivial ?_
  clear hK K
  refine sq ?_
  refine .mv ?_
  refine sq ?_
  refine .r0 ?_
  refine sq ?_
  refine .r0 ?_
  refine sq ?_
  refine .r0 ?_
  refine sq ?_
  refine .mv ?_
  refine sq ?_
  refine .mv ?_
  refine sq ?_
  refine .mv ?_
  apply wpSq_end
  refine hK2 _ _ ?_
  refine wp_seq_k ?_
  intro K3 hK3
  refine rg [0, 1, 2, 3, 4, 5, 6, 7] ?_
  refine sq ?_
  refine .mv ?_
  refine sq ?_
  refine .r0 ?_
  refine sq ?_
  refine .mv ?_
  refine sk ?_
  refine sk ?_
  refine sk ?_
  refine sq ?_
  refine .r0 ?_
  refine sq ?_
  refine .mv ?_
  apply wpSq_end
  refine hK3 _ _ ?_
  refine wp_ret ?_
  try dsimp only [Exit.then, Exit.inBlock]
  refine bodyPost_ret (v := (.bool false)) (by simp [results, Try.results32, go_sem]) rfl ?_
  exact ⟨rfl, hs.b⟩
set_option maxHeartbeats 4000000 in
set_option maxRecDepth 20000 in
theorem isSquare_ok (ha : MN l w oa A) (hna : A.length = na) (h : gd A) (hk : wd A = k) :
    Calls Try.prog 32 #[.slice oa na ca] w fun e w' => e = .returned (.bool (decide (na = k))) ∧ Below w.heap.size w w' := by
  have HA := hide ha
  have H := hide h
  have HK := hide hk
  have E := hide (show ((na : Int) == (k : Int)) = decide (na = k) by by_cases h : na = k <;> simp [h]; omega)
  clear ha h hk
  go_enter Try.func32, Try.ntmps32
  have hs := St.nil w
  refine wp_seq_k ?_
  intro K1 hK1
  refine rg [0] ?_
  refine sq ?_
  refine .mv ?_
  apply wpSq_end
  refine hK1 _ _ ?_
  refine wp_seq_k ?_
  intro K2 hK2
  refine rg [0, 1, 2, 3, 4, 5, 6, 7, 8] ?_
  refine sq ?_
  refine .mv ?_
  refine sq ?_
  intro K hK
  have hb := hs.b
  go_big_op
  go_fit (mSize_ok (HA.out.bl stab_n hb) hna H.out HK.out)
  rintro e w_1 ⟨rfl, hb_1⟩
  clear hb
  replace hs := hs.bl hb_1
  refine hK _ _ rfl trivial ?_
  clear hK K
  refine sq ?_
  refine .mv ?_
  refine sq ?_
  refine .r0 ?_
  refine sq ?_
  refine .r0 ?_
  refine sq ?_
  refine .r0 ?_
  refine sq ?_
  refine .mv ?_
  refine sq ?_
  refine .mv ?_
  refine sq ?_
  refine .mv ?_
  apply wpSq_end
  refine hK2 _ _ ?_
  refine wp_seq_k ?_
  intro K3 hK3
  refine rg [0, 1, 2, 3, 4, 5, 6, 7] ?_
  refine sq ?_
  refine .mv ?_
  refine sq ?_
  refine .r0 ?_
  refine sq ?_
  refine .mv ?_
  refine sq ?_
  refine .mv ?_
  refine sq ?_
  refine .mv ?_
  refine sq ?_
  refine .r0 ?_
  refine sq ?_
  refine .r0 ?_
  refine sq ?_
  refine .mv ?_
  apply wpSq_end
  refine hK3 _ _ ?_
  refine wp_ret ?_
  try dsimp only [Exit.then, Exit.inBlock]
  refine bodyPost_ret (v := (.bool ((na : Int) == (k : Int)))) (by simp [results, Try.results32, go_sem]) rfl ?_
  exact ⟨by rw [E.out], hs.b⟩
set_option maxHeartbeats 4000000 in
set_option maxRecDepth 20000 in
theorem isZero_any (ha : PN w va x l y m) (hl : l ≤ 100000000) (hm : m ≤ 100000000) :
    Calls Try.prog 21 #[va] w fun e w' => e = .returned (.bool (decide (x = 0 ∧ y = 0))) ∧ Below w.heap.size w w' := by
  obtain ⟨B, hB⟩ : ∃ B, decide (x = 0 ∧ y = 0) = B := ⟨_, rfl⟩
  rw [hB]
  have HB := hide hB
  clear hB
  obtain ⟨n_0a, o_0a, k_0a, c_0a, n_0b, o_0b, k_0b, c_0b, rfl, ha1, ha2⟩ := ha
  go_enter Try.func21, Try.ntmps21
  have hs := St.nil w
  refine wp_seq_k ?_
  intro K1 hK1
  refine rg [0, 1] ?_
  refine sq ?_
  refine .al hs ?_; clear hs; intro p_b1 w_1 hs n1 kb_b1
  refine sq ?_
  refine .mv ?_
  apply wpSq_end
  refine hK1 _ _ ?_
  refine wp_seq_k ?_
  intro K2 hK2
  refine rg [0, 1, 2, 3] ?_
  refine sq ?_
  refine .r4 hs.g0.f4 ?_
  refine sq ?_
  refine .r0 ?_
  refine sq ?_
  intro K hK
  have k0_1 := kb n1
  replace ha1 := ha1.k k0_1
  replace ha2 := ha2.k k0_1
  go_big_op
  go_fit (gEqual_any (PN.mk' ha1 ha2) (PN.mk' ((zc_zero w_1).zn zlen_0) ((zc_zero w_1).zn zlen_0)) (by omega) (by omega) (by omega) (by omega) )
  rintro e w_2 ⟨rfl, hb_2⟩
  replace hs := hs.bl hb_2
  rw [HB.out]
  refine hK _ _ rfl trivial ?_
  clear hK K
  refine sq ?_
  refine .mv ?_
  apply wpSq_end
  refine hK2 _ _ ?_
  refine wp_ret ?_
  try dsimp only [Exit.then, Exit.inBlock]
  refine bodyPost_ret (v := (.bool B)) (by simp [results, Try.results21, go_sem]) rfl ?_
  exact ⟨rfl, hs.b⟩
set_option maxHeartbeats 4000000 in
set_option maxRecDepth 20000 in
theorem overWhole1 {p : Nat} {q1 : Bool} {q2 : Option Addr} {q3 q4 : Nat} (xq : Bs w p #[.bool q1, .slice q2 q3 q4] 34) (hq : ZN w (.agg #[.bool q1, .slice q2 q3 q4]) u k) (ha : PN w va (u * x) l (u * y) m) (hl : l ≤ 100000000) (hm : m ≤ 100000000) (hk : k ≤ 100000000) (h0 : u ≠ 0) :
    Calls Try.prog 51 (#[va] ++ #[.pointer (some ⟨p, 0, none⟩)]) w fun e w' => ∃ r, e = .returned r ∧ PC w' r x y ∧ Below w.heap.size w w' := by
  show Calls _ _ #[va, .pointer (some ⟨p, 0, none⟩)] w _
  have H0 := hide h0
  have E1 := hide (show (u * x).fmod u = 0 from Int.mul_fmod_right ..)
  have E2 := hide (show (u * y).fmod u = 0 from Int.mul_fmod_right ..)
  have E3 := hide (show (u * x).fdiv u = x from Int.mul_fdiv_cancel_left _ h0)
  have E4 := hide (show (u * y).fdiv u = y from Int.mul_fdiv_cancel_left _ h0)
  clear h0
  generalize u * x = a at *
  generalize u * y = b at *
  obtain ⟨n_0a, o_0a, k_0a, c_0a, n_0b, o_0b, k_0b, c_0b, rfl, ha1, ha2⟩ := ha
  go_enter Try.func51, Try.ntmps51
  have hs := St.nil w
  have lt_bq := xq.lt
  have xqz := xq
  refine wp_seq_k ?_
  intro K1 hK1
  refine rg [0, 1] ?_
  refine sq ?_
  refine .al hs ?_; clear hs; intro p_b1 w_1 hs n1 kb_b1
  replace xq := xq.bl n1
  refine sq ?_
  refine .al hs ?_; clear hs; intro p_b2 w_2 hs n2 kb_b2
  replace xq := xq.bl n2
  apply wpSq_end
  refine hK1 _ _ ?_
  refine wp_seq_k ?_
  intro K2 hK2
  refine rg [0, 1, 2, 3, 4, 5, 6, 7, 8, 9] ?_
  refine sq ?_
  refine .r0 ?_
  refine sq ?_
  refine .r4 hs.g1.f4 ?_
  refine sq ?_
  refine .r2 xq.f2 ?_
  refine sq ?_
  intro K hK
  have k0_2 := (kb n1).b n2
  replace ha1 := ha1.k k0_2
  replace hq := hq.k k0_2
  go_big_op
  go_fit (exact_any ha1 hq (by omega) (by omega) H0.out E1.out)
  rintro e w_3 ⟨v_g1, rfl, g1, hb_3⟩
  replace xq := xq.bl hb_3; replace hs := hs.bl hb_3
  replace g1 := g1.rd
  obtain ⟨n_g1, o_g1, k_g1, c_g1, rfl⟩ := g1.open2
  have Lg1 := hide (g1.lenOf (fdiv_len (H0.out) (ha1.len)))
  rw [E3.out] at g1
  refine hK _ _ rfl trivial ?_
  clear hK K
  refine sq ?_
  refine .mv ?_
  refine sq ?_
  refine .r0 ?_
  refine sq ?_
  refine .r0 ?_
  refine sq ?_
  refine .al hs ?_; clear hs; intro p_b3 w_4 hs n4 kb_b3
  replace xq := xq.bl n4
  refine sq ?_
  refine .s2 hs.g0 (fun _ => hs.u0 kb_b3) ?_; clear hs; intro w_5 hs hd5 ho5
  replace xq := xq.frame ho5 (Nat.ne_of_lt (Nat.lt_of_lt_of_le lt_bq kb_b3))
  refine sq ?_
  refine .mv ?_
  apply wpSq_end
  refine hK2 _ _ ?_
  refine wp_seq_k ?_
  intro K3 hK3
  refine rg [0, 1, 2, 3, 4, 5, 6, 7, 8, 9] ?_
  refine sq ?_
  refine .r0 ?_
  refine sq ?_
  refine .r4 hs.g2.f4 ?_
  refine sq ?_
  refine .r2 xq.f2 ?_
  refine sq ?_
  intro K hK
  have k0_5 := ((k0_2.b hb_3).b n4).o hd5 ho5
  replace ha2 := ha2.k k0_5
  have k2_5 := ((kb hb_3).b n4).o hd5 ho5
  replace hq := hq.k k2_5
  go_big_op
  go_fit (exact_any ha2 hq (by omega) (by omega) H0.out E2.out)
  rintro e w_6 ⟨v_g2, rfl, g2, hb_6⟩
  replace hs := hs.bl hb_6
  replace g2 := g2.rd
  obtain ⟨n_g2, o_g2, k_g2, c_g2, rfl⟩ := g2.open2
  have Lg2 := hide (g2.lenOf (fdiv_len (H0.out) (ha2.len)))
  rw [E4.out] at g2
  refine hK _ _ rfl trivial ?_
  clear hK K
  refine sq ?_
  refine .mv ?_
  refine sq ?_
  refine .r0 ?_
  refine sq ?_
  refine .r0 ?_
  refine sq ?_
  refine .al hs ?_; clear hs; intro p_b4 w_7 hs n7 kb_b4
  refine sq ?_
  refine .s2 hs.g0 (fun _ => hs.u0 kb_b4) ?_; clear hs; intro w_8 hs hd8 ho8
  refine sq ?_
  refine .mv ?_
  apply wpSq_end
  refine hK3 _ _ ?_
  refine wp_seq_k ?_
  intro K4 hK4
  refine rg [0, 1, 2, 3] ?_
  refine sq ?_
  refine .r2 hs.g1.f2 ?_
  refine sq ?_
  refine .r2 hs.g0.f2 ?_
  refine sq ?_
  refine .r0 ?_
  refine sq ?_
  refine .s4 hs.g2 (fun _ => hs.u2 kb_b2) ?_; clear hs; intro w_9 hs hd9 ho9
  apply wpSq_end
  refine hK4 _ _ ?_
  refine wp_ret ?_
  try dsimp only [Exit.then, Exit.inBlock]
  obtain ⟨r0_0, r0_1, r0_2, r0_3⟩ := hs.g2.f4
  refine bodyPost_ret (v := (.agg #[.bool n_g1, .slice o_g1 k_g1 c_g1, .bool n_g2, .slice o_g2 k_g2 c_g2])) (by simp [results, Try.results51, go_sem, r0_0, r0_1, r0_2, r0_3]) rfl ?_
  have k3_9 := (((((kb n4).o hd5 ho5).b hb_6).b n7).o hd8 ho8).o hd9 ho9
  replace g1 := g1.k k3_9
  have k6_9 := ((kb n7).o hd8 ho8).o hd9 ho9
  replace g2 := g2.k k6_9
  exact ⟨_, rfl, .mk' g1 g2, hs.b⟩
end
end Go.Proofs.Ytjfjlloibmebeaa


/- gdet: the closures that divide without a rest. -/
namespace Go.Proofs.Ytjfjlloibmebeaa
open Go Go.RowKit Dig
set_option linter.unusedVariables false
theorem Bs.ty {w : World} {p : Nat} {cs ds : Array Value} {ty t2 : TypeId} {fz f2 : Nat × Nat} (h : Bs w p cs ty fz) (h2 : Bs w p ds t2 f2) : ty = t2 := by
  have e1 : w.heap[p]? = _ := h
  have e2 : w.heap[p]? = _ := h2
  rw [e1] at e2
  simp only [Option.some.injEq, Obj.cells.injEq] at e2
  exact e2.2.1
/-- A block that lies apart, by its type and its age, joins the state. -/
theorem St.adopt2 {w0 w : World} {bs : List En} {p q r n : Nat} {cs ds es : Array Value} {ty t2 t3 : TypeId} (hs : St w0 (bx q ds t2 :: bx r es t3 :: bs) w) (x : Bs w p cs ty) (h2 : ty ≠ t2) (h3 : ty ≠ t3) (hl : ∀ f ∈ bs.map (·.1), ∀ k, f = some k → k < n) (hn : n ≤ p) :
    St w0 (bx p cs ty :: bx q ds t2 :: bx r es t3 :: bs) w := by
  refine St.cons (.bx x) (fun f hf k hk hc => ?_) hs
  obtain rfl : p = k := Option.some.inj hk
  rcases List.mem_cons.1 hf with rfl | hf
  · obtain rfl : q = p := Option.some.inj hc
    exact h2 (x.ty hs.1.1.1)
  · rcases List.mem_cons.1 hf with rfl | hf
    · obtain rfl : r = p := Option.some.inj hc
      exact h3 (x.ty hs.1.2.1.1)
    · have := hl f hf p hc
      omega
/-- Digits lie as they lay: carried along. -/
structure KpF (w W : World) : Prop where
  kp : Kp w W
theorem KpF.k {w W W' : World} (h : KpF w W) (k : Kp W W') : KpF w W' := ⟨h.kp.t k⟩
theorem KpF.r (w : World) : KpF w w := ⟨kb (Below.refl w.heap.size w)⟩
/-- A closure that divides by q without a rest: the identity (q = 1), or overNumber's. -/
def DivF (w : World) (f : Nat) (caps : Array Value) (ds : List En) (q : Int × Int) : Prop :=
  (f = 82 ∧ caps = #[] ∧ ds = [] ∧ q = (1, 0)) ∨
  (f = 84 ∧ ∃ pa pb pc n1 o1 k1 c1 n2 o2 k2 c2 n3 o3 k3 c3, caps = #[.pointer (some ⟨pb, 0, none⟩), .pointer (some ⟨pa, 0, none⟩)] ∧
    ds = [bx pb #[.func (.func 51) #[] #[.pointer (some ⟨pc, 0, none⟩)]] 72, bx pa #[.bool n1, .slice o1 k1 c1, .bool n2, .slice o2 k2 c2] 41, bx pc #[.bool n3, .slice o3 k3 c3] 34] ∧
    ZN w (.agg #[.bool n1, .slice o1 k1 c1]) q.1 10000000 ∧ ZN w (.agg #[.bool n2, .slice o2 k2 c2]) (-q.2) 10000000 ∧ ZN w (.agg #[.bool n3, .slice o3 k3 c3]) (gN q.1 q.2) 50000000 ∧ gN q.1 q.2 ≠ 0)
theorem DivF.k {w w' : World} {f : Nat} {caps : Array Value} {ds : List En} {q : Int × Int} (h : DivF w f caps ds q) (k : Kp w w') : DivF w' f caps ds q := by
  rcases h with h | ⟨h1, pa, pb, pc, n1, o1, k1, c1, n2, o2, k2, c2, n3, o3, k3, c3, h2, h3, h4, h5, h6, h7⟩
  · exact .inl h
  · exact .inr ⟨h1, pa, pb, pc, n1, o1, k1, c1, n2, o2, k2, c2, n3, o3, k3, c3, h2, h3, h4.k k, h5.k k, h6.k k, h7⟩
theorem conj_mul {q z : Int × Int} : mP (mP q z) (q.1, -q.2) = (gN q.1 q.2 * z.1, gN q.1 q.2 * z.2) := by
  unfold mP gN
  exact Prod.ext (by simp only []; grind) (by simp only []; grind)
section
variable {w w0 : World} {l m k n : Nat} {va vq : Value} {x y u v : Int} {bs : List En}
set_option maxHeartbeats 4000000 in
set_option maxRecDepth 20000 in
theorem ident1G (ha : PC w va x y) : Calls Try.prog 82 (#[va] ++ #[]) w fun e w' => ∃ r, e = .returned r ∧ PC w' r x y ∧ Below w.heap.size w w' := by
  show Calls _ _ #[va] w _
  obtain ⟨n_0a, o_0a, k_0a, c_0a, n_0b, o_0b, k_0b, c_0b, rfl, ha1, ha2⟩ := ha
  go_enter Try.func82, Try.ntmps82
  have hs := St.nil w
  refine wp_seq_k ?_
  intro K1 hK1
  refine rg [0, 1] ?_
  refine sq ?_
  refine .al hs ?_; clear hs; intro p_b1 w_1 hs n1 kb_b1
  refine sq ?_
  refine .al hs ?_; clear hs; intro p_b2 w_2 hs n2 kb_b2
  apply wpSq_end
  refine hK1 _ _ ?_
  refine wp_seq_k ?_
  intro K2 hK2
  refine rg [0, 1] ?_
  refine sq ?_
  refine .r4 hs.g1.f4 ?_
  refine sq ?_
  refine .s4 hs.g0 (fun _ => hs.u0 kb_b2) ?_; clear hs; intro w_3 hs hd3 ho3
  apply wpSq_end
  refine hK2 _ _ ?_
  refine wp_ret ?_
  try dsimp only [Exit.then, Exit.inBlock]
  obtain ⟨r0_0, r0_1, r0_2, r0_3⟩ := hs.g0.f4
  refine bodyPost_ret (v := (.agg #[.bool n_0a, .slice o_0a k_0a c_0a, .bool n_0b, .slice o_0b k_0b c_0b])) (by simp [results, Try.results82, go_sem, r0_0, r0_1, r0_2, r0_3]) rfl ?_
  have k0_3 := ((kb n1).b n2).o hd3 ho3
  replace ha1 := ha1.k k0_3
  replace ha2 := ha2.k k0_3
  exact ⟨_, rfl, .mk' ha1 ha2, hs.b⟩
set_option maxHeartbeats 4000000 in
set_option maxRecDepth 20000 in
theorem overNumber1 {pa pb pc : Nat} {n1 n2 n3 : Bool} {o1 o2 o3 : Option Addr} {k1 c1 k2 c2 k3 c3 : Nat} {q z : Int × Int} (xb : Bs w pb #[.func (.func 51) #[] #[.pointer (some ⟨pc, 0, none⟩)]] 72) (xa : Bs w pa #[.bool n1, .slice o1 k1 c1, .bool n2, .slice o2 k2 c2] 41) (xc : Bs w pc #[.bool n3, .slice o3 k3 c3] 34)
    (h1 : ZN w (.agg #[.bool n1, .slice o1 k1 c1]) q.1 10000000) (h2 : ZN w (.agg #[.bool n2, .slice o2 k2 c2]) (-q.2) 10000000) (h3 : ZN w (.agg #[.bool n3, .slice o3 k3 c3]) (gN q.1 q.2) 50000000) (h0 : gN q.1 q.2 ≠ 0)
    (ha : PN w va (mP q z).1 l (mP q z).2 m) (hl : l ≤ 20000000) (hm : m ≤ 20000000) :
    Calls Try.prog 84 (#[va] ++ #[.pointer (some ⟨pb, 0, none⟩), .pointer (some ⟨pa, 0, none⟩)]) w fun e w' => ∃ r, e = .returned r ∧ PC w' r z.1 z.2 ∧ Below w.heap.size w w' := by
  show Calls _ _ #[va, .pointer (some ⟨pb, 0, none⟩), .pointer (some ⟨pa, 0, none⟩)] w _
  have E := hide (conj_mul (q := q) (z := z))
  have H0 := hide h0
  have XC := hide xc
  have H3 := hide h3
  obtain ⟨a, b⟩ := q
  obtain ⟨c, d⟩ := z
  obtain ⟨X, hX⟩ : ∃ X, (mP (a, b) (c, d)).1 = X := ⟨_, rfl⟩
  obtain ⟨Y, hY⟩ : ∃ Y, (mP (a, b) (c, d)).2 = Y := ⟨_, rfl⟩
  rw [hX, hY] at ha
  have EX := hide (show X * a - Y * (-b) = gN a b * c by have := congrArg Prod.fst E.out; simp only [] at this; rw [← this, ← hX, ← hY]; rfl)
  have EY := hide (show X * (-b) + Y * a = gN a b * d by have := congrArg Prod.snd E.out; simp only [] at this; rw [← this, ← hX, ← hY]; rfl)
  clear hX hY E h0 xc h3
  simp only [] at h1 h2 H0 H3 EX EY ⊢
  obtain ⟨N, hN⟩ : ∃ N, gN a b = N := ⟨_, rfl⟩
  rw [hN] at H0 H3 EX EY
  clear hN
  obtain ⟨n_0a, o_0a, k_0a, c_0a, n_0b, o_0b, k_0b, c_0b, rfl, ha1, ha2⟩ := ha
  go_enter Try.func84, Try.ntmps84
  have hs := St.nil w
  have lt_bb := xb.lt
  have xbz := xb
  have lt_ba := xa.lt
  have xaz := xa
  refine wp_seq_k ?_
  intro K1 hK1
  refine rg [0, 1] ?_
  refine sq ?_
  refine .al hs ?_; clear hs; intro p_b1 w_1 hs n1 kb_b1
  replace xb := xb.bl n1; replace xa := xa.bl n1
  refine sq ?_
  refine .al hs ?_; clear hs; intro p_b2 w_2 hs n2 kb_b2
  replace xb := xb.bl n2; replace xa := xa.bl n2
  apply wpSq_end
  refine hK1 _ _ ?_
  refine wp_seq_k ?_
  intro K2 hK2
  refine wp_region_f4 [(0, false), (1, false), (2, false), (3, true), (4, true)] [5] [] (fun _ => default) [0, 1, 2, 99, 99, 99] [] (.c xb (.c hs.g1 (.c xa .n))) fn fun w_3 n3 => ?_
  replace xb := xb.bl n3; replace xa := xa.bl n3; replace hs := hs.bl n3
  refine f1 ?_
  refine f4 ?_
  refine f4 ?_
  refine fl fun w_4 n4 => ?_
  replace xb := xb.bl n4; replace xa := xa.bl n4; replace hs := hs.bl n4
  intro K hK
  have k0_4 := (((kb n1).b n2).b n3).b n4
  replace ha1 := ha1.k k0_4
  replace ha2 := ha2.k k0_4
  replace h1 := h1.k k0_4
  replace h2 := h2.k k0_4
  go_big_op
  go_fit (gMul_any (PN.mk' ha1 ha2) (PN.mk' h1 h2) (by omega) (by omega) (by omega) (by omega) )
  rintro e w_5 ⟨_, rfl, ⟨n_ga, o_ga, k_ga, c_ga, n_gb, o_gb, k_gb, c_gb, rfl, g1, g2⟩, hb_5⟩
  replace xb := xb.bl hb_5; replace xa := xa.bl hb_5; replace hs := hs.bl hb_5
  have Lg1 := hide (g1.lenOf (zlen_sub (zlen_mul (ha1.len) (h1.len)) (zlen_mul (ha2.len) (h2.len))))
  have Lg2 := hide (g2.lenOf (zlen_add (zlen_mul (ha1.len) (h2.len)) (zlen_mul (ha2.len) (h1.len))))
  rw [EX.out] at g1
  rw [EY.out] at g2
  refine hK _ _ rfl ⟨hb_5, (And.intro xb (And.intro hs.g1 (And.intro xa trivial)))⟩ ?_
  clear hK K
  have k4_5 := kb hb_5
  replace ha1 := ha1.k k4_5
  replace h1 := h1.k k4_5
  replace ha2 := ha2.k k4_5
  replace h2 := h2.k k4_5
  have L1 := hide (show (dig (N * c).natAbs).length ≤ 70000000 by rw [← EX.out]; exact Nat.le_trans (zlen_sub (zlen_mul ha1.len h1.len) (zlen_mul ha2.len h2.len)) (by omega))
  have L2 := hide (show (dig (N * d).natAbs).length ≤ 70000000 by rw [← EY.out]; exact Nat.le_trans (zlen_add (zlen_mul ha1.len h2.len) (zlen_mul ha2.len h1.len)) (by omega))
  refine fl fun w_6 n6 => ?_
  replace xb := xb.bl n6; replace xa := xa.bl n6; replace hs := hs.bl n6
  intro K hK
  have hb := hs.b
  have k5_6 := kb n6
  replace g1 := g1.k k5_6
  replace g2 := g2.k k5_6
  go_big_op
  go_fit (overWhole1 (XC.out.bl hb) (H3.out.bl hb) (.mk' (g1.zn L1.out) (g2.zn L2.out)) (by omega) (by omega) (by omega) H0.out)
  rintro e w_7 ⟨_, rfl, ⟨n_ra, o_ra, k_ra, c_ra, n_rb, o_rb, k_rb, c_rb, rfl, r1, r2⟩, hb_7⟩
  clear hb
  replace xb := xb.bl hb_7; replace xa := xa.bl hb_7; replace hs := hs.bl hb_7
  refine hK _ _ rfl ⟨hb_7, (And.intro xb (And.intro hs.g1 (And.intro xa trivial)))⟩ ?_
  clear hK K
  refine e0 hs ?_; clear hs; intro w_8 hs n8
  replace xb := xb.bl n8; replace xa := xa.bl n8
  refine tl ?_
  refine .s4 hs.g0 (fun _ => hs.u0 kb_b2) ?_ (e := fun _ hs => (And.intro (xbz.bl hs.b) (And.intro hs.g1 (And.intro (xaz.bl hs.b) True.intro)))); clear hs; intro w_9 hs hd9 ho9
  replace xb := xb.frame ho9 (Nat.ne_of_lt (Nat.lt_of_lt_of_le lt_bb kb_b2)); replace xa := xa.frame ho9 (Nat.ne_of_lt (Nat.lt_of_lt_of_le lt_ba kb_b2))
  apply wpTail_end
  refine hK2 _ _ ?_
  refine wp_ret ?_
  try dsimp only [Exit.then, Exit.inBlock]
  obtain ⟨r0_0, r0_1, r0_2, r0_3⟩ := hs.g0.f4
  refine bodyPost_ret (v := (.agg #[.bool n_ra, .slice o_ra k_ra c_ra, .bool n_rb, .slice o_rb k_rb c_rb])) (by simp [results, Try.results84, go_sem, r0_0, r0_1, r0_2, r0_3]) rfl ?_
  have k7_9 := (kb n8).o hd9 ho9
  replace r1 := r1.k k7_9
  replace r2 := r2.k k7_9
  exact ⟨_, rfl, .mk' r1 r2, hs.b⟩
set_option maxRecDepth 20000 in
theorem DivF.ent {w1 : World} {f : Nat} {caps : Array Value} {ds : List En} {q : Int × Int} (h : DivF w1 f caps ds q) : Ent1 f caps := by
  rcases h with ⟨rfl, rfl, rfl, rfl⟩ | ⟨rfl, pa, pb, pc, n1, o1, k1, c1, n2, o2, k2, c2, n3, o3, k3, c3, rfl, rfl, h4, h5, h6, h7⟩
  · exact fun _ _ => by kernel_rfl
  · exact fun _ _ => by kernel_rfl
/-- What divides, called. -/
theorem DivF.call {w1 : World} {f : Nat} {caps : Array Value} {ds : List En} {q z : Int × Int} (h : DivF w1 f caps ds q) (hd : AllE ds w1) (ha : PC w1 va (mP q z).1 (mP q z).2) (hz : zl l (mP q z)) (hl : l ≤ 20000000) :
    Calls Try.prog f (#[va] ++ caps) w1 fun e w' => ∃ r, e = .returned r ∧ PC w' r z.1 z.2 ∧ Below w1.heap.size w1 w' := by
  rcases h with ⟨rfl, rfl, rfl, rfl⟩ | ⟨rfl, pa, pb, pc, n1, o1, k1, c1, n2, o2, k2, c2, n3, o3, k3, c3, rfl, rfl, h4, h5, h6, h7⟩
  · have e : mP (1, 0) z = z := Prod.ext (by simp [mP]) (by simp [mP])
    rw [e] at ha
    exact ident1G ha
  · exact overNumber1 (hd.1.1) (hd.2.1.1) (hd.2.2.1.1) h4 h5 h6 h7 (ha.pn hz.1 hz.2) hl hl
set_option maxHeartbeats 4000000 in
set_option maxRecDepth 20000 in
theorem overWhole_any {n1 : Bool} {o1 : Option Addr} {k1 c1 : Nat} (ha : ZN w (.agg #[.bool n1, .slice o1 k1 c1]) x l) :
    Calls Try.prog 23 #[.agg #[.bool n1, .slice o1 k1 c1]] w fun e w' => ∃ p, e = .returned (.func (.func 51) #[] #[.pointer (some ⟨p, 0, none⟩)]) ∧ Hid (w.heap.size ≤ p) ∧ Bs w' p #[.bool n1, .slice o1 k1 c1] 34 ∧ Below w.heap.size w w' := by
  go_enter Try.func23, Try.ntmps23
  have hs := St.nil w
  refine wp_seq_k ?_
  intro K1 hK1
  refine rg [0, 1] ?_
  refine sq ?_
  refine .al hs ?_; clear hs; intro p_b1 w_1 hs n1 kb_b1
  refine sq ?_
  refine .mv ?_
  apply wpSq_end
  refine hK1 _ _ ?_
  refine wp_seq_k ?_
  intro K2 hK2
  refine rg [0, 1] ?_
  refine sq ?_
  refine .r0 ?_
  refine sq ?_
  refine .mv ?_
  apply wpSq_end
  refine hK2 _ _ ?_
  refine wp_ret ?_
  try dsimp only [Exit.then, Exit.inBlock]
  refine bodyPost_ret (v := (.func (.func 51) #[] #[(.pointer (some ⟨p_b1, 0, none⟩))])) (by simp [results, Try.results23, go_sem]) rfl ?_
  exact ⟨_, rfl, kb_b1, hs.g0, hs.b⟩
set_option maxHeartbeats 4000000 in
set_option maxRecDepth 20000 in
theorem overNumber_any (hst : St w0 bs w) (hq : PN w vq u l v m) (hl : l ≤ 10000000) (hm : m ≤ 10000000) (h0 : gN u v ≠ 0) :
    Calls Try.prog 64 #[vq] w fun e w' => ∃ f caps ds, e = .returned (.func (.func f) #[] caps) ∧ DivF w' f caps ds (u, v) ∧ St w0 (ds ++ bs) w' ∧ Kp w w' := by
  have H0 := hide h0
  clear h0
  have kk := KpF.r w
  obtain ⟨n_0a, o_0a, k_0a, c_0a, n_0b, o_0b, k_0b, c_0b, rfl, hq1, hq2⟩ := hq
  go_enter Try.func64, Try.ntmps64
  have hs := hst
  clear hst
  refine wp_seq_k ?_
  intro K1 hK1
  refine rg [0, 1] ?_
  refine sq ?_
  refine .al hs ?_; clear hs; intro p_b1 w_1 hs n1 kb_b1
  refine sq ?_
  refine .mv ?_
  apply wpSq_end
  refine hK1 _ _ ?_
  refine wp_seq_k ?_
  intro K2 hK2
  refine wp_region_f4 [(0, false), (2, false), (1, true), (3, true), (4, true)] [7, 8] [5, 6] (fun j => if j = 5 then (.cells #[.bool false, .slice none 0 0, .bool false, .slice none 0 0] 41) else (.cells #[.nilFunc] 72)) [0, 99, 0, 99, 99, 99, 99, 99, 99] [] (.c hs.g0 .n) (fm (fm fn)) fun w_2 n2 => ?_
  replace hs := hs.bl n2
  have hlB := hs.lt; have hkB := hs.k
  refine f4 ?_
  refine f4 ?_
  refine fl fun w_3 n3 => ?_
  replace hs := hs.bl n3
  intro K hK
  have k0_3 := ((kb n1).b n2).b n3
  replace hq1 := hq1.k k0_3
  replace hq2 := hq2.k k0_3
  go_big_op
  go_fit (gConj_any (PN.mk' hq1 hq2) (by omega) (by omega) )
  rintro e w_4 ⟨_, rfl, ⟨n_ga, o_ga, k_ga, c_ga, n_gb, o_gb, k_gb, c_gb, rfl, g1, g2⟩, hb_4⟩
  replace hs := hs.bl hb_4
  have Lg1 := hide (g1.lenOf ((hq1.len)))
  have Lg2 := hide (g2.lenOf (zlen_neg (hq2.len)))
  refine hK _ _ rfl ⟨hb_4, (And.intro hs.g0 trivial)⟩ ?_
  clear hK K
  refine fl fun w_5 n5 => ?_
  replace hs := hs.bl n5
  intro K hK
  have k3_5 := (kb hb_4).b n5
  replace hq1 := hq1.k k3_5
  replace hq2 := hq2.k k3_5
  go_big_op
  go_fit (gNorm_any (PN.mk' hq1 hq2) (by omega) (by omega) )
  rintro e w_6 ⟨v_N, rfl, N, hb_6⟩
  replace hs := hs.bl hb_6
  obtain ⟨n_N, o_N, k_N, c_N, rfl⟩ := N.open2
  have LN := hide (N.lenOf (zlen_add (zlen_mul (hq1.len) (hq1.len)) (zlen_mul (hq2.len) (hq2.len))))
  refine hK _ _ rfl ⟨hb_6, (And.intro hs.g0 trivial)⟩ ?_
  clear hK K
  have HLB := hide hs.lt
  refine fl fun w_7 n7 => ?_
  replace hs := hs.bl n7
  intro K hK
  have k6_7 := kb n7
  replace N := N.k k6_7
  go_big_op
  go_fit (overWhole_any (N.zn LN.out))
  rintro e w_8 ⟨p_Wa, rfl, kb_Wa, x_Wa, hb_8⟩
  replace hs := hs.bl hb_8
  refine hK _ _ rfl ⟨hb_8, (And.intro hs.g0 trivial)⟩ ?_
  clear hK K
  refine e2 hs hlB hkB ?_; clear hs hlB hkB; intro w_9 p_b2 p_b3 hs n9 kb_b2 kb_b3
  replace x_Wa := x_Wa.bl n9
  have hs := hs.adopt2 x_Wa (by decide) (by decide) HLB.out (Nat.le_trans n7.size kb_Wa)
  clear x_Wa
  refine tl ?_
  refine .s4 hs.g1 (fun _ => hs.u1 kb_b2) ?_ (e := fun _ hs => (And.intro hs.g3 True.intro)); clear hs; intro w_10 hs hd10 ho10
  refine tl ?_
  refine .s1 hs.g2 (fun _ => hs.u2 kb_b3) ?_ (e := fun _ hs => (And.intro hs.g3 True.intro)); clear hs; intro w_11 hs hd11 ho11
  apply wpTail_end
  refine hK2 _ _ ?_
  refine wp_seq_k ?_
  intro K3 hK3
  refine rg [0, 1] ?_
  refine sq ?_
  refine .r0 ?_
  refine sq ?_
  refine .mv ?_
  apply wpSq_end
  refine hK3 _ _ ?_
  refine wp_ret ?_
  have k4_11 := ((((((kb n5).b hb_6).b n7).b hb_8).b n9).o hd10 ho10).o hd11 ho11
  replace g1 := g1.k k4_11
  replace g2 := g2.k k4_11
  have k7_11 := (((kb hb_8).b n9).o hd10 ho10).o hd11 ho11
  replace N := N.k k7_11
  have k0_11 := (((((((k0_3.b hb_4).b n5).b hb_6).b n7).b hb_8).b n9).o hd10 ho10).o hd11 ho11
  replace kk := kk.k k0_11
  try dsimp only [Exit.then, Exit.inBlock]
  refine bodyPost_ret (v := (.func (.func 84) #[] #[(.pointer (some ⟨p_b3, 0, none⟩)), (.pointer (some ⟨p_b2, 0, none⟩))])) (by simp [results, Try.results64, go_sem]) rfl ?_
  exact ⟨_, _, _, rfl, .inr ⟨rfl, _, _, _, _, _, _, _, _, _, _, _, _, _, _, _, rfl, rfl, (g1.zn Lg1.out).up hl, (g2.zn Lg2.out).up hm, (N.zn LN.out).up (by omega), H0.out⟩, (hs.sub (.cons_cons _ (.cons_cons _ (.cons_cons _ (.cons _ (List.Sublist.refl _)))))).perm ((List.Perm.swap _ _ _).trans ((List.Perm.cons _ (List.Perm.swap _ _ _)).trans (List.Perm.swap _ _ _))), kk.kp⟩
end
end Go.Proofs.Ytjfjlloibmebeaa


/- Append in a region that draws. -/
namespace Go.Proofs.Ytjfjlloibmebeaa
open Go Go.RowKit Dig
set_option linter.unusedVariables false
section
variable {P : Program} {o : Oper} {a : Act} {w w0 : World} {B : Exit → Act → World → Prop} {E : World → Prop} {G : Act → World → Prop} {bs : List En}
/-- One element is appended, in a region that draws: what else is asked may lean on the state behind it. -/
theorem Stp.apo {v z : Value} {n sz q c : Nat} {xs news : List Value} {e t ety : TypeId} {inf : TypeInfo} {sv xv : Operand} {a' : Value → Act} (i : Nat) (hs : St w0 bs w) (x : Bs w q news.toArray ety)
    (h : ∀ o' c' w', St w0 (bs.set i (ls w0.heap.size e sz (.slice o' (n + 1) c') (n + 1) (xs ++ news))) w' → Kp w w' → Below w0.heap.size w w' → G (a' (.slice o' (n + 1) c')) w')
    (hi : bs[i]? = some (ls w0.heap.size e sz v n xs) := by rfl) (hn : n ≤ 100000000000 := by omega)
    (ho : o.op = .call { callee := .builtin .append, args := #[sv, xv], argTypes := #[t, t] } := by rfl) (hsv : a.eval sv = v := by rfl) (hxv : a.eval xv = .slice (some ⟨q, 0, none⟩) 1 c := by rfl)
    (ht : P.underlying t = some (.slice e) := by rfl) (hinf : P.info? e = some inf := by rfl) (hz : inf.zero = some z := by rfl)
    (hsz : inf.size = sz := by rfl) (hzs : z.cells.size = sz := by rfl) (h0 : 0 < sz := by decide) (hzn : z.cells.toList.all nd = true := by rfl) (hby : inf.bytes ≤ 1000 := by decide) (hlen : news.length = sz := by rfl)
    (h1 : news.all Value.oneCell' = true := by rfl) (hnn : news.all nd = true := by rfl) (hu : (e == 63) = false := by rfl)
    (hp : ∀ v', a.put o.dst v' = a' v' := by intro v'; unfold Act.put; simp only [List.setIfInBounds_toArray, List.set_cons_succ, List.set_cons_zero]; rfl)
    (eE : ∀ o' c' w', St w0 (bs.set i (ls w0.heap.size e sz (.slice o' (n + 1) c') (n + 1) (xs ++ news))) w' → E w') (hd : ∀ v', (a' v').defers = a.defers := by exact fun _ => rfl) : Stp P o a w B E G := fun K hK => by
  have hL : Lst w w0.heap.size e sz v n xs := by
    have h2 := hs.1
    have : ∀ {bs : List En} {i : Nat} {en : En}, AllE bs w → bs[i]? = some en → Ok en w := by
      intro bs
      induction bs with
      | nil => intro i en _ hi; simp at hi
      | cons b t ih =>
        intro i en hA hi
        cases i with
        | zero => obtain rfl : b = en := by simpa using hi
                  exact hA.1
        | succ i => exact ih hA.2 (by simpa using hi)
    exact (this h2 hi).1
  have hnews : ∀ j u, news[j]? = some u → w.cell? ((⟨q, 0, none⟩ : Addr).add j) = some u := fun j u hj => by
    rw [addr_add0]
    exact x.cell j (c := u) (by simpa using hj)
  obtain ⟨v', w', hr, h2, h3, h4⟩ := Lst.append (P := P) w0.heap.size t o.type e inf z sz inf.bytes ht hinf hz hsz rfl hzs h0 hzn v n xs hL ⟨q, 0, none⟩ 1 c news (by decide) (by rw [hlen, Nat.one_mul]) hnews (List.all_eq_true.1 h1) hnn (by unfold maxLen; omega) (Nat.le_trans (Nat.mul_le_mul_left _ hby) (by omega)) hs.k
  obtain ⟨o', c', rfl⟩ := h2.shape
  have hst : St w0 (bs.set i (ls w0.heap.size e sz (.slice o' (n + 1) c') (n + 1) (xs ++ news))) w' := by
    refine hs.st i hi (fun k hk hne => h3.block k hk hne) h3.size (.ls h2) (fun k hk => ?_) ?_
    · rcases h4 with h5 | h5
      · exact .inl (h5.symm.trans hk)
      · right
        have h6 : some w.heap.size = some k := h5.symm.trans hk
        injection h6 with h6
        omega
    · refine ⟨h3.os.trans hs.b.os, h3.tape.trans hs.b.tape, h3.output.trans hs.b.output, Nat.le_trans hs.k h3.size, fun k hk => ?_⟩
      rw [h3.block k (Nat.lt_of_lt_of_le hk hs.k) fun hc => ?_]
      · exact hs.b.block k hk
      · have := (hL.1.lt k hc.symm).1
        omega
  unfold Oper.wp execOp
  simp only [ho, resolve, invoke, builtin, Sem.run_bind, Sem.run_pure, Result.andThen_ok, List.map_toArray, List.map_cons, List.map_nil, hsv, hxv, hr]
  have h7 := hK (a' (.slice o' (n + 1) c')) w' (hd _) (eE _ _ _ hst) (h _ _ _ hst (kp_grown h3 (hL.nod hu)) ⟨h3.os, h3.tape, h3.output, h3.size, fun k hk => h3.block k (Nat.lt_of_lt_of_le hk hs.k) fun hc => Nat.lt_irrefl _ (Nat.lt_of_lt_of_le hk (hL.1.lt k hc.symm).1)⟩)
  rw [← hp] at h7
  exact h7
end
end Go.Proofs.Ytjfjlloibmebeaa


/- The reference's Row. -/
namespace Go.Proofs.Ytjfjlloibmebeaa
open Go Go.RowKit Dig
set_option linter.unusedVariables false
section
variable {w : World} {l m r n n2 c1 c2 : Nat} {o1 o2 : Option Addr} {ps qs : List (Int × Int)} {vg : Value} {u v : Int}
end
end Go.Proofs.Ytjfjlloibmebeaa


/- The reference's Dot and Length. -/
namespace Go.Proofs.Ytjfjlloibmebeaa
open Go Go.RowKit Dig
set_option linter.unusedVariables false
section
variable {w : World} {l m n c1 c2 : Nat} {o1 o2 : Option Addr} {ps qs : List (Int × Int)}
end
end Go.Proofs.Ytjfjlloibmebeaa


/- The reference's Times. -/
namespace Go.Proofs.Ytjfjlloibmebeaa
open Go Go.RowKit Dig
set_option linter.unusedVariables false
section
variable {w : World} {l m n k cv cm i : Nat} {ov om : Option Addr} {V : List (Int × Int)} {M : List (List (Int × Int))}
end
end Go.Proofs.Ytjfjlloibmebeaa

