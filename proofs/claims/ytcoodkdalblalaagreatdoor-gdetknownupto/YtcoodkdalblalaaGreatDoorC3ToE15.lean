/- gfrac's reference: products and quotients of long whole numbers. -/
import Derived.Test.YtcoodkdalblalaaGreatDoorS8ToC2
namespace Go.Proofs.YtcoodkdalblalaaGreatDoor
open Go Go.RowKit Dig
set_option linter.unusedVariables false
set_option linter.unusedSimpArgs false
theorem rv_m1 (x p : Int) : rv x 1 * rv p 1 = rv (x * p) 1 := by rw [← rv_mul]; rfl
theorem rv_s1 (x p : Int) : rv x 1 - rv p 1 = rv (x - p) 1 := by
  rw [← rv_sub (by decide) (by decide)]; simp
theorem rv_a1 (x p : Int) : rv x 1 + rv p 1 = rv (x + p) 1 := by
  rw [← rv_add (by decide) (by decide)]; simp
theorem rv_n1 (x : Int) : -rv x 1 = rv (-x) 1 := (rv_neg1 x 1).symm
/-- A quotient, over one whole number. -/
theorem qC_eq (x u p s : Int) : qC (x, u) (p, s) = (rv (x * p - u * -s) 1 / rv (p * p + s * s) 1, rv (x * -s + u * p) 1 / rv (p * p + s * s) 1) := by
  unfold qC
  simp only [rv_n1, rv_m1, rv_s1, rv_a1]
end Go.Proofs.YtcoodkdalblalaaGreatDoor
namespace Go.Proofs.YtcoodkdalblalaaGreatDoor
open Go Go.RowKit Dig
set_option linter.unusedVariables false
variable {l : Nat}
end Go.Proofs.YtcoodkdalblalaaGreatDoor
namespace Go.Proofs.YtcoodkdalblalaaGreatDoor
open Go Go.RowKit Dig
set_option linter.unusedVariables false
/-- A list's cells hold these whole numbers. -/
def ZL (w : World) : List Value → List Int → Prop
  | [], [] => True
  | c1 :: c2 :: xs, z :: zs => ZC w (.agg #[c1, c2]) z ∧ ZL w xs zs
  | _, _ => False
theorem ZL.nil (w : World) : ZL w [] [] := trivial
theorem ZL.k' {w w' : World} (k : Kp w w') : ∀ {xs : List Value} {zs : List Int}, ZL w xs zs → ZL w' xs zs
  | [], [], _ => trivial
  | _ :: _ :: _, _ :: _, h => ⟨h.1.k k, ZL.k' k h.2⟩
  | [], _ :: _, h => h.elim
  | [_], [], h => h.elim
  | [_], _ :: _, h => h.elim
  | _ :: _ :: _, [], h => h.elim
theorem ZL.k {w w' : World} {xs : List Value} {zs : List Int} (h : ZL w xs zs) (k : Kp w w') : ZL w' xs zs := ZL.k' k h
theorem ZL.snoc {w : World} {c1 c2 : Value} {z : Int} : ∀ {xs : List Value} {zs : List Int}, ZL w xs zs → ZC w (.agg #[c1, c2]) z → ZL w (xs ++ [c1, c2]) (zs ++ [z])
  | [], [], _, h2 => ⟨h2, trivial⟩
  | _ :: _ :: _, _ :: _, h, h2 => ⟨h.1, ZL.snoc h.2 h2⟩
  | [], _ :: _, h, _ => h.elim
  | [_], [], h, _ => h.elim
  | [_], _ :: _, h, _ => h.elim
  | _ :: _ :: _, [], h, _ => h.elim
theorem ZL.els {w : World} : ∀ {xs : List Value} {zs : List Int}, ZL w xs zs → ∀ i (hi : i < zs.length), ∃ n o k c, xs[i * 2]? = some (.bool n) ∧ xs[i * 2 + 1]? = some (.slice o k c) ∧ ZC w (.agg #[.bool n, .slice o k c]) zs[i]
  | _ :: _ :: _, _ :: _, h, 0, _ => by
    obtain ⟨n, o, k, c, e⟩ := h.1.open2
    simp only [Value.agg.injEq] at e
    have e1 := congrArg (·[0]?) e
    have e2 := congrArg (·[1]?) e
    simp only [List.getElem?_toArray, List.getElem?_cons_zero, List.getElem?_cons_succ, Option.some.injEq] at e1 e2
    subst e1 e2
    exact ⟨n, o, k, c, rfl, rfl, h.1⟩
  | _ :: _ :: _, _ :: _, h, i + 1, hi => by
    obtain ⟨n, o, k, c, h1, h2, h3⟩ := ZL.els h.2 i (by simpa using hi)
    refine ⟨n, o, k, c, ?_, ?_, by simpa using h3⟩
    · rw [show (i + 1) * 2 = i * 2 + 1 + 1 by omega]; simpa using h1
    · rw [show (i + 1) * 2 + 1 = i * 2 + 1 + 1 + 1 by omega]; simpa using h2
  | [], _ :: _, h, _, _ => h.elim
  | [_], _ :: _, h, _, _ => h.elim
/-- A closure that divides by a whole number without a rest: the identity (q = 1), or overWhole's. -/
def DivZ (w : World) (f : Nat) (caps : Array Value) (ds : List En) (q : Int) : Prop :=
  (f = 64 ∧ caps = #[] ∧ ds = [] ∧ q = 1) ∨
  (f = 68 ∧ ∃ p n1 o1 k1 c1, caps = #[.pointer (some ⟨p, 0, none⟩)] ∧ ds = [bx p #[.bool n1, .slice o1 k1 c1] 24] ∧ ZN w (.agg #[.bool n1, .slice o1 k1 c1]) q 10000000 ∧ q ≠ 0)
theorem DivZ.k {w w' : World} {f : Nat} {caps : Array Value} {ds : List En} {q : Int} (h : DivZ w f caps ds q) (k : Kp w w') : DivZ w' f caps ds q := by
  rcases h with h | ⟨h1, p, n1, o1, k1, c1, h2, h3, h4, h5⟩
  · exact .inl h
  · exact .inr ⟨h1, p, n1, o1, k1, c1, h2, h3, h4.k k, h5⟩
section
variable {w w0 : World} {l m k n : Nat} {va vb vq : Value} {x y u v q : Int} {bs : List En}
set_option maxHeartbeats 4000000 in
set_option maxRecDepth 20000 in
theorem ident1Z (ha : PC w va x y) : Calls Tryz.prog 64 (#[va] ++ #[]) w fun e w' => ∃ r, e = .returned r ∧ PC w' r x y ∧ Below w.heap.size w w' := by
  show Calls _ _ #[va] w _
  obtain ⟨n_0a, o_0a, k_0a, c_0a, n_0b, o_0b, k_0b, c_0b, rfl, ha1, ha2⟩ := ha
  go_enter Tryz.func64, Tryz.ntmps64
  have hs := St.nil w
  refine wp_seq_k ?_
  intro K1 hK1
  refine rg [0, 1] ?_
  refine sq ?_
  refine .al hs ?_; clear hs; intro p_b1 w_1 hs n1 kb_b1
  refine sq ?_
  refine .al hs ?_; clear hs; intro p_b2 w_2 hs n2 kb_b2
  apply wpSq_end
  refine hK1 _ _ ?_
  refine wp_seq_k ?_
  intro K2 hK2
  refine rg [0, 1] ?_
  refine sq ?_
  refine .r4 hs.g1.f4 ?_
  refine sq ?_
  refine .s4 hs.g0 (fun _ => hs.u0 kb_b2) ?_; clear hs; intro w_3 hs hd3 ho3
  apply wpSq_end
  refine hK2 _ _ ?_
  refine wp_ret ?_
  try dsimp only [Exit.then, Exit.inBlock]
  obtain ⟨r0_0, r0_1, r0_2, r0_3⟩ := hs.g0.f4
  refine bodyPost_ret (v := (.agg #[.bool n_0a, .slice o_0a k_0a c_0a, .bool n_0b, .slice o_0b k_0b c_0b])) (by simp [results, Tryz.results64, go_sem, r0_0, r0_1, r0_2, r0_3]) rfl ?_
  have k0_3 := ((kb n1).b n2).o hd3 ho3
  replace ha1 := ha1.k k0_3
  replace ha2 := ha2.k k0_3
  exact ⟨_, rfl, .mk' ha1 ha2, hs.b⟩
set_option maxRecDepth 20000 in
theorem DivZ.ent {w1 : World} {f : Nat} {caps : Array Value} {ds : List En} {q : Int} (h : DivZ w1 f caps ds q) : Ent1 f caps := by
  rcases h with ⟨rfl, rfl, rfl, rfl⟩ | ⟨rfl, p, n1, o1, k1, c1, rfl, rfl, h4, h5⟩
  · exact fun _ _ => by kernel_rfl
  · exact fun _ _ => by kernel_rfl
theorem DivZ.call {w1 : World} {f : Nat} {caps : Array Value} {ds : List En} {q x y : Int} (h : DivZ w1 f caps ds q) (hd : AllE ds w1) (ha : PC w1 va (q * x) (q * y)) (hz : zl l (q * x, q * y)) (hl : l ≤ 20000000) :
    Calls Tryz.prog f (#[va] ++ caps) w1 fun e w' => ∃ r, e = .returned r ∧ PC w' r x y ∧ Below w1.heap.size w1 w' := by
  rcases h with ⟨rfl, rfl, rfl, rfl⟩ | ⟨rfl, p, n1, o1, k1, c1, rfl, rfl, h4, h5⟩
  · rw [Int.one_mul, Int.one_mul] at ha
    exact ident1Z ha
  · exact overWhole1 (hd.1.1) h4 (ha.pn hz.1 hz.2) (by omega) (by omega) (by omega) h5
set_option maxHeartbeats 4000000 in
set_option maxRecDepth 20000 in
theorem overWholeS (hst : St w0 bs w) (hq : ZN w vq q l) (hl : l ≤ 10000000) (h0 : q ≠ 0) :
    Calls Tryz.prog 33 #[vq] w fun e w' => ∃ f caps ds, e = .returned (.func (.func f) #[] caps) ∧ DivZ w' f caps ds q ∧ St w0 (ds ++ bs) w' ∧ Kp w w' := by
  have H0 := hide h0
  clear h0
  have kk := KpF.r w
  obtain ⟨n_0, o_0, k_0, c_0, rfl⟩ := hq.open2
  go_enter Tryz.func33, Tryz.ntmps33
  have hs := hst
  clear hst
  refine wp_seq_k ?_
  intro K1 hK1
  refine rg [0, 1] ?_
  refine sq ?_
  refine .al hs ?_; clear hs; intro p_b1 w_1 hs n1 kb_b1
  refine sq ?_
  refine .mv ?_
  apply wpSq_end
  refine hK1 _ _ ?_
  refine wp_seq_k ?_
  intro K2 hK2
  refine rg [0, 1] ?_
  refine sq ?_
  refine .r0 ?_
  refine sq ?_
  refine .mv ?_
  apply wpSq_end
  refine hK2 _ _ ?_
  refine wp_ret ?_
  have k0_1 := kb n1
  replace hq := hq.k k0_1
  replace kk := kk.k k0_1
  try dsimp only [Exit.then, Exit.inBlock]
  refine bodyPost_ret (v := (.func (.func 68) #[] #[(.pointer (some ⟨p_b1, 0, none⟩))])) (by simp [results, Tryz.results33, go_sem]) rfl ?_
  exact ⟨_, _, _, rfl, .inr ⟨rfl, _, _, _, _, _, rfl, rfl, hq.up hl, H0.out⟩, hs, kk.kp⟩
set_option maxHeartbeats 4000000 in
set_option maxRecDepth 20000 in
theorem timesWhole_any (ha : PN w va x l y m) (hq : ZN w vb q k) (hl : l ≤ 40000000) (hm : m ≤ 40000000) (hk : k ≤ 40000000) :
    Calls Tryz.prog 32 #[va, vb] w fun e w' => ∃ r, e = .returned r ∧ PC w' r (x * q) (y * q) ∧ Below w.heap.size w w' := by
  obtain ⟨n_0a, o_0a, k_0a, c_0a, n_0b, o_0b, k_0b, c_0b, rfl, ha1, ha2⟩ := ha
  obtain ⟨n_1, o_1, k_1, c_1, rfl⟩ := hq.open2
  go_enter Tryz.func32, Tryz.ntmps32
  have hs := St.nil w
  refine wp_seq_k ?_
  intro K1 hK1
  refine rg [0, 1, 2] ?_
  refine sq ?_
  refine .al hs ?_; clear hs; intro p_b1 w_1 hs n1 kb_b1
  refine sq ?_
  refine .al hs ?_; clear hs; intro p_b2 w_2 hs n2 kb_b2
  refine sq ?_
  refine .al hs ?_; clear hs; intro p_b3 w_3 hs n3 kb_b3
  apply wpSq_end
  refine hK1 _ _ ?_
  refine wp_seq_k ?_
  intro K2 hK2
  refine wp_region_f4 [(0, false), (1, false), (2, false), (4, false), (5, false), (6, false), (3, true), (7, true), (8, false)] [9] [] (fun _ => default) [99, 0, 1, 99, 99, 0, 1, 99, 99, 99] [] (.c hs.g2 (.c hs.g1 .n)) fn fun w_4 n4 => ?_
  replace hs := hs.bl n4
  refine f0 ?_
  refine f4 ?_
  refine f2 ?_
  refine f0 ?_
  refine f4 ?_
  refine f2 ?_
  refine fl fun w_5 n5 => ?_
  replace hs := hs.bl n5
  intro K hK
  have k0_5 := ((((kb n1).b n2).b n3).b n4).b n5
  replace ha1 := ha1.k k0_5
  replace hq := hq.k k0_5
  go_big_op
  go_fit (zmul_any ha1 hq (by omega) (by omega) )
  rintro e w_6 ⟨v_f, rfl, f, hb_6⟩
  replace hs := hs.bl hb_6
  replace f := f.rd
  obtain ⟨n_f, o_f, k_f, c_f, rfl⟩ := f.open2
  have Lf := hide (f.lenOf (zlen_mul (ha1.len) (hq.len)))
  refine hK _ _ rfl ⟨hb_6, (And.intro hs.g2 (And.intro hs.g1 trivial))⟩ ?_
  clear hK K
  refine fl fun w_7 n7 => ?_
  replace hs := hs.bl n7
  intro K hK
  have k0_7 := (k0_5.b hb_6).b n7
  replace ha2 := ha2.k k0_7
  have k5_7 := (kb hb_6).b n7
  replace hq := hq.k k5_7
  go_big_op
  go_fit (zmul_any ha2 hq (by omega) (by omega) )
  rintro e w_8 ⟨v_g, rfl, g, hb_8⟩
  replace hs := hs.bl hb_8
  replace g := g.rd
  obtain ⟨n_g, o_g, k_g, c_g, rfl⟩ := g.open2
  have Lg := hide (g.lenOf (zlen_mul (ha2.len) (hq.len)))
  refine hK _ _ rfl ⟨hb_8, (And.intro hs.g2 (And.intro hs.g1 trivial))⟩ ?_
  clear hK K
  refine f0 ?_
  refine e0 hs ?_; clear hs; intro w_9 hs n9
  refine tl ?_
  refine .s4 hs.g0 (fun _ => hs.u0 kb_b3) ?_ (e := fun _ hs => (And.intro hs.g2 (And.intro hs.g1 True.intro))); clear hs; intro w_10 hs hd10 ho10
  apply wpTail_end
  refine hK2 _ _ ?_
  refine wp_ret ?_
  have k6_10 := (((kb n7).b hb_8).b n9).o hd10 ho10
  replace f := f.k k6_10
  have k8_10 := (kb n9).o hd10 ho10
  replace g := g.k k8_10
  try dsimp only [Exit.then, Exit.inBlock]
  obtain ⟨r0_0, r0_1, r0_2, r0_3⟩ := hs.g0.f4
  refine bodyPost_ret (v := (.agg #[.bool n_f, .slice o_f k_f c_f, .bool n_g, .slice o_g k_g c_g])) (by simp [results, Tryz.results32, go_sem, r0_0, r0_1, r0_2, r0_3]) rfl ?_
  exact ⟨_, rfl, .mk' f g, hs.b⟩
end
def pvz (A : Nat → Nat → Int × Int) (k : Nat) : List Int := (List.range k).map fun m => (Dt.det (m + 1) A).1
theorem pvz_succ {A : Nat → Nat → Int × Int} {k : Nat} : pvz A (k + 1) = pvz A k ++ [(Dt.det (k + 1) A).1] := by unfold pvz; rw [List.range_succ, List.map_append]; rfl
theorem pvz_len {A : Nat → Nat → Int × Int} {k : Nat} : (pvz A k).length = k := by simp [pvz]
/-- A closure that tells a table's pivots as they stand. -/
def PivZ (w0 : World) (f : Nat) (bnd caps : Array Value) (o : Option Addr) (n c pt W : Nat) (A : Nat → Nat → Int × Int) (Fin : Nat → Prop) : Prop :=
  ∀ (k : Nat) (w : World) (F : Nat → Nat → Int × Int) (rs : List Rw) (bs : List En), k ≤ n → Agr n W k A F → (∀ m, m ≤ k → Dt.det m A ≠ 0) → rs.length = n → RD w rs (mkM n W F) →
    St w0 (ls w0.heap.size 28 1 (.slice o n c) n (rs.map (·.v)) :: bx pt #[.slice o n c] 30 :: (bs ++ rs.map (Rw.e w0.heap.size))) w →
    Calls Tryz.prog f (bnd.push (.int .i64 (k : Int)) ++ caps) w fun e w' => ∃ v fd p, e = .returned (.tuple #[v, .bool fd]) ∧ ZC w' v p ∧
      ((fd = true ∧ k < n ∧ k < W ∧ (p, 0) = Dt.D k A k k ∧ p ≠ 0) ∨ (fd = false ∧ Fin k)) ∧ RD w' rs (mkM n W F) ∧
      St w0 (ls w0.heap.size 28 1 (.slice o n c) n (rs.map (·.v)) :: bx pt #[.slice o n c] 30 :: (bs ++ rs.map (Rw.e w0.heap.size))) w' ∧ Kp w w'
section
variable {w w0 : World} {f pt n c W L : Nat} {bnd caps : Array Value} {o : Option Addr} {rs : List Rw} {bs : List En} {A : Nat → Nat → Int × Int} {Fin : Nat → Prop}
set_option maxHeartbeats 8000000 in
set_option maxRecDepth 20000 in
theorem elimZ_any (hst : St w0 (ls w0.heap.size 28 1 (.slice o n c) n (rs.map (·.v)) :: bx pt #[.slice o n c] 30 :: (bs ++ rs.map (Rw.e w0.heap.size))) w)
    (kb_bt : Hid (w0.heap.size ≤ pt)) (hf : EntP f bnd caps) (hpv : PivZ w0 f bnd caps o n c pt W A Fin) (hrl : rs.length = n) (hd : RD w rs (mkM n W A)) (hn : n ≤ 1000) (hW : W ≤ 1000) (hre : ∀ k, (Dt.det k A).2 = 0)
    (hB : ∀ m, ∀ i, i < n → ∀ j, j < W → zl L (Dt.D m A i j)) (hL : L ≤ 3300000) :
    Calls Tryz.prog 29 #[.slice o n c, .func (.func f) bnd caps, .func (.func 32) #[] #[], .func (.func 33) #[] #[]] w fun e w' => ∃ o9 c9 xs r F' rs', e = .returned (.slice o9 r c9) ∧ r ≤ n ∧ Fin r ∧ (∀ m, m ≤ r → Dt.det m A ≠ 0) ∧ ZL w' xs (pvz A r) ∧ rs'.length = n ∧ RD w' rs' (mkM n W F') ∧
      St w0 (ls w0.heap.size 24 2 (.slice o9 r c9) r xs :: ls w0.heap.size 28 1 (.slice o n c) n (rs'.map (·.v)) :: bx pt #[.slice o n c] 30 :: (bs ++ rs'.map (Rw.e w0.heap.size))) w' ∧ Kp w w' := by
  have kk := KpF.r w
  have HPV := hide hpv
  have HL4 := hide (show L ≤ 40000000 by omega)
  have HL5 := hide (show L + L + 1 ≤ 100000000 by omega)
  have HL6 := hide (show L + L + 2 ≤ 20000000 by omega)
  have HBD := hide hB
  have HRE := hide hre
  have HQ0 := hide (show ∀ m, m ≤ 0 → Dt.det m A ≠ 0 from fun m hm => by rw [Nat.le_zero.1 hm]; exact (by decide : ((1, 0) : Int × Int) ≠ 0))
  have HA0 := hide (show Agr n W 0 A A from fun i _ j _ _ _ => Dt.D_0.symm)
  clear hpv hB hre
  unfold EntP at hf
  go_enter Tryz.func29, Tryz.ntmps29
  have hs := hst
  clear hst
  refine wp_seq_k ?_
  intro K1 hK1
  refine rg [0] ?_
  refine sq ?_
  refine .mv ?_
  apply wpSq_end
  refine hK1 _ _ ?_
  refine wp_scope_k 9 ?_
  intro S hSr hSn hSg
  refine wp_seq_k ?_
  intro K2 hK2
  refine rg [0] ?_
  refine sq ?_
  refine .mv ?_
  apply wpSq_end
  refine hK2 _ _ ?_
  refine wp_seq_k ?_
  intro K3 hK3
  refine rg [0] ?_
  refine sq ?_
  refine .r0 ?_
  apply wpSq_end
  refine hK3 _ _ ?_
  refine wp_seq_k ?_
  intro K4 hK4
  refine wp_label ?_
  refine hK4 _ _ ?_
  refine wp_seq_k ?_
  intro K5 hK5
  refine wp_seq_k ?_
  intro K6 hK6
  refine rg [0] ?_
  refine sq ?_
  refine .mv ?_
  apply wpSq_end
  refine hK6 _ _ ?_
  refine wp_block ?_
  have hd1 := hs.2.1
  go_loopg [9, 10, 11] n (fun kz s9 s10 s11 wr => ∃ (k : Nat) (F : Nat → Nat → Int × Int) (rs : List Rw) (fz2 : Nat) (caps2 : Array Value) (o9 : Option Addr) (c9 : Nat) (xs : List Value), s11 = .int .i64 (k : Int) ∧ s10 = .func (.func fz2) #[] caps2 ∧ s9 = .slice o9 k c9 ∧ k + kz = n ∧ Hid (k = 0 → fz2 = 64 ∧ caps2 = #[]) ∧ Hid (∀ m, m ≤ k → Dt.det m A ≠ 0) ∧ Hid (Agr n W k A F) ∧ rs.length = n ∧ RD wr rs (mkM n W F) ∧ ZL wr xs (pvz A k) ∧ KpF w wr ∧
    St w0 (ls w0.heap.size 28 1 (.slice o n c) n (rs.map (·.v)) :: bx pt #[.slice o n c] 30 :: ls w0.heap.size 24 2 (.slice o9 k c9) k xs :: (bs ++ rs.map (Rw.e w0.heap.size))) wr)
  case atStart => exact ⟨0, A, rs, 64, #[], none, 0, [], rfl, rfl, rfl, by omega, hide (fun _ => ⟨rfl, rfl⟩), HQ0, HA0, hrl, hd, ZL.nil _, kk, (hs.l0 _ _).perm ((List.Perm.swap _ _ _).trans (List.Perm.cons _ (List.Perm.swap _ _ _)))⟩
  case round =>
  clear HQ0 HA0 hrl
  clear kk hd hs
  obtain ⟨k, F, rs, fz2, caps2, o9, c9, xs, rfl, rfl, rfl, hkn, HID, HQ, HA, hrl, hd, hL9, kk, hs⟩ := hrel
  have HO := ‹∀ (a' : Act) (w' : World), Handed _ _ a' w' → _›
  obtain ⟨g1, hg1⟩ : ∃ g, gk = g := ⟨_, rfl⟩
  refine wp_seq_k ?_
  intro K7 hK7
  refine wp_block ?_
  refine wp_seq_k ?_
  intro K8 hK8
  refine rg [0, 1, 2, 3, 4, 5, 6, 7, 8] ?_
  refine sq ?_
  refine .mv ?_
  refine sq ?_
  refine .mv ?_
  refine sq ?_
  intro K hK
  go_big_op
  go_fit (HPV.out k _ F rs (ls w0.heap.size 24 2 (.slice o9 k c9) k xs :: bs) (by omega) HA.out HQ.out hrl hd hs)
  have bb2 := hs.b
  rintro e w_2 ⟨v_p, fd, P, rfl, p, HP, hd2, hs', kp2⟩
  clear hs; have hs := hs'; clear hs'
  have bc2 := hs.b
  clear bb2 bc2
  obtain ⟨n_p, o_p, k_p, c_p, rfl⟩ := p.open2
  refine hK _ _ rfl trivial ?_
  clear hK K
  refine sq ?_
  refine .mv ?_
  refine sq ?_
  refine .r0 ?_
  refine sq ?_
  refine .r0 ?_
  refine sq ?_
  refine .al hs ?_; clear hs; intro p_b1 w_3 hs n3 kb_b1
  refine sq ?_
  refine .s2 hs.g0 (fun _ => hs.u0 kb_b1) ?_; clear hs; intro w_4 hs hd4 ho4
  refine sq ?_
  refine .mv ?_
  apply wpSq_end
  refine hK8 _ _ ?_
  refine wp_seq_k ?_
  intro K9 hK9
  refine wp_block ?_
  refine wp_seq_k ?_
  intro K10 hK10
  refine rg [0, 1, 2] ?_
  refine sq ?_
  refine .mv ?_
  refine sq ?_
  refine .r0 ?_
  refine sq ?_
  refine .mv ?_
  apply wpSq_end
  refine hK10 _ _ ?_
  rcases HP with ⟨rfl, hkn2, hkW, hP, hP0⟩ | ⟨rfl, hFin⟩
  · have HDT := hide (HQ.out k (Nat.le_refl _))
    have HKN := hide hkn2
    have HKW := hide hkW
    have HPE := hide hP
    have HQ2 := hide (show ∀ m, m ≤ k + 1 → Dt.det m A ≠ 0 from fun m hm => by
      rcases Nat.lt_or_ge k m with c | c
      · obtain rfl : m = k + 1 := by omega
        rw [← Dt.D_diag, ← hP]; exact fun h => hP0 (congrArg Prod.fst h)
      · exact HQ.out m c)
    have LP := hide (show (dig P.natAbs).length ≤ L by
      have := (HBD.out k k hkn2 k hkW).1
      rw [← hP] at this; exact this)
    clear hP hP0
    refine cf ?_
    refine wp_seq_k ?_
    intro K11 hK11
    refine rg [0, 1, 2] ?_
    refine sq ?_
    refine .mv ?_
    refine sq ?_
    refine .r0 ?_
    refine sq ?_
    refine .mv ?_
    apply wpSq_end
    refine hK11 _ _ ?_
    by_cases hk0 : k = 0
    · have t1 : k < 1 := by omega
      have hdv : DivZ w_4 fz2 caps2 [] (Dt.det k A).1 := by
        obtain ⟨e1, e2⟩ := HID.out hk0
        exact .inl ⟨e1, e2, rfl, by rw [hk0]; rfl⟩
      clear hk0
      refine cf ?_
      refine wp_skip ?_
      refine hK9 _ _ ?_
      refine wp_seq_k ?_
      intro K12 hK12
      refine wp_seq_k ?_
      intro K13 hK13
      refine rg [0, 1, 2, 3, 4, 5] ?_
      refine sq ?_
      refine .mv ?_
      refine sq ?_
      refine .mv ?_
      refine sq ?_
      refine .r0 ?_
      refine sq ?_
      refine .r0 ?_
      refine sq ?_
      refine .r0 ?_
      refine sq ?_
      refine .mv ?_
      apply wpSq_end
      refine hK13 _ _ ?_
      refine wp_block ?_
      generalize hoT : (@ite (Option Addr) (c = k + 1) _ o _) = oT
      have HT := hide hoT
      clear hoT
      have hs := hs.perm ((List.Perm.swap _ _ _).trans (List.Perm.cons _ ((List.Perm.swap _ _ _).trans (List.Perm.cons _ (List.Perm.swap _ _ _)))))
      have k1_3 := (kb n3).o hd4 ho4
      replace hd2 := hd2.k k1_3
      replace p := p.k k1_3
      have k0_3 := (kp2.b n3).o hd4 ho4
      replace hL9 := hL9.k k0_3
      replace kk := kk.k k0_3
      have hd5 := hs.2.1
      go_loopg [43] (n - (k + 1)) (fun kz s43 wr => ∃ (q : Nat) (rs : List Rw), s43 = .int .i64 (q : Int) ∧ q + kz = n - (k + 1) ∧ rs.length = n ∧ RD wr rs (mkM n W (Elm k A F (k + 1 + q) (k + 1))) ∧ ZC wr (.agg #[.bool n_p, .slice o_p k_p c_p]) P ∧ ZL wr xs (pvz A k) ∧ DivZ wr fz2 caps2 ([] : List En) (Dt.det k A).1 ∧ KpF w wr ∧
        St w0 (ls w0.heap.size 28 1 (.slice o n c) n (rs.map (·.v)) :: bx pt #[.slice o n c] 30 :: ls w0.heap.size 24 2 (.slice o9 k c9) k xs :: bx p_b1 #[.bool n_p, .slice o_p k_p c_p] 24 :: ((([] : List En) ++ bs) ++ rs.map (Rw.e w0.heap.size))) wr)
      case atStart => exact ⟨0, rs, rfl, by omega, hrl, by rw [Nat.add_zero, ← Elm_0]; exact hd2, p, hL9, hdv, kk, hs⟩
      case round =>
      clear hL9 hd kk p hd2 hdv hs
      obtain ⟨q, rs, rfl, hqn, hrl, hd, z5, hL9, hdv, kk, hs⟩ := hrel
      have HO2 := ‹∀ (a' : Act) (w' : World), Handed _ _ a' w' → _›
      obtain ⟨g2, hg2⟩ : ∃ g, gk = g := ⟨_, rfl⟩
      have Lz5 := hide LP.out
      by_cases hq : q < n - (k + 1)
      · have HQQ := hide hq
        have HI := hide (show k + 1 + q < n by omega)
        obtain ⟨oi, ci, hvi⟩ := hs.rowv (bs := bx pt #[.slice o n c] 30 :: ls w0.heap.size 24 2 (.slice o9 k c9) k xs :: bx p_b1 #[.bool n_p, .slice o_p k_p c_p] 24 :: (([] : List En) ++ bs)) hd (p := k + 1 + q) (K := W) (by rw [len_mkM]; omega) (by rw [mkM_row (by omega)]; simp)
        have LO : Lst wr w0.heap.size 28 1 (.slice o n c) n _ := hs.1.1.1
        obtain ⟨gO, curO, rfl, xO, hcO⟩ := LO.box (by omega)
        have eI := hcO _ _ hvi
        have hcap := LO.capn
        obtain rfl : oT = some ⟨gO, k + 1, none⟩ := by
          have := HT.out
          rw [if_neg (by omega)] at this
          rw [← this]; simp
        clear LO hcO HT
        refine wp_seq_k ?_
        intro K14 hK14
        refine rg [0] ?_
        refine sq ?_
        refine .r0 ?_
        apply wpSq_end
        refine hK14 _ _ ?_
        refine wp_seq_k ?_
        intro K15 hK15
        refine ct ?_
        refine wp_skip ?_
        refine hK15 _ _ ?_
        refine wp_seq_k ?_
        intro K16 hK16
        refine wp_block ?_
        refine wp_seq_k ?_
        intro K17 hK17
        refine rg [0, 1, 2] ?_
        refine sq ?_
        refine .r0 ?_
        refine sq ?_
        refine .r1 (xO.cell _ eI) ?_
        refine sq ?_
        refine .mv ?_
        apply wpSq_end
        refine hK17 _ _ ?_
        refine wp_seq_k ?_
        intro K18 hK18
        refine rg [0, 1, 2] ?_
        refine sq ?_
        refine .mv ?_
        refine sq ?_
        refine .r0 ?_
        refine sq ?_
        refine .mv ?_
        apply wpSq_end
        refine hK18 _ _ ?_
        refine wp_block ?_
        have hd6 := hs.2.1
        go_loopg [16] (W - (k + 1)) (fun kz s16 wr => ∃ (j : Nat) (rs : List Rw), s16 = .int .i64 (j : Int) ∧ j + kz = W ∧ k + 1 ≤ j ∧ rs.length = n ∧ RD wr rs (mkM n W (Elm k A F (k + 1 + q) j)) ∧ (rs.map (·.v))[k + 1 + q]? = some (.slice oi W ci) ∧ ZC wr (.agg #[.bool n_p, .slice o_p k_p c_p]) P ∧ ZL wr xs (pvz A k) ∧ DivZ wr fz2 caps2 ([] : List En) (Dt.det k A).1 ∧ KpF w wr ∧
          St w0 (ls w0.heap.size 28 1 (.slice (some ⟨gO, 0, none⟩) n c) n (rs.map (·.v)) :: bx pt #[.slice (some ⟨gO, 0, none⟩) n c] 30 :: ls w0.heap.size 24 2 (.slice o9 k c9) k xs :: bx p_b1 #[.bool n_p, .slice o_p k_p c_p] 24 :: ((([] : List En) ++ bs) ++ rs.map (Rw.e w0.heap.size))) wr)
        case atStart => exact ⟨k + 1, rs, by rfl, by omega, Nat.le_refl _, hrl, hd, hvi, z5, hL9, hdv, kk, hs⟩
        case round =>
        clear hrl hvi
        clear z5 hL9 hd kk hdv xO hs
        obtain ⟨j, rs, rfl, hjW, hkj, hrl, hd, hri, z5, hL9, hdv, kk, hs⟩ := hrel
        have HRI := hide hri
        clear hri
        have Lz5 := hide LP.out
        by_cases hj : j < W
        · have HJ := hide hj
          obtain ⟨a, gp, cp, xp, b, gq, cq, xq, r2, rfl, hab, hvp, hvq, hxp, hxq, hs⟩ := hs.rows2 (bs := bx pt #[.slice (some ⟨gO, 0, none⟩) n c] 30 :: ls w0.heap.size 24 2 (.slice o9 k c9) k xs :: bx p_b1 #[.bool n_p, .slice o_p k_p c_p] 24 :: (([] : List En) ++ bs)) hd (p := k) (q := k + 1 + q) (K := W) (by omega) (by rw [len_mkM]; exact HI.out) (by rw [mkM_row HKN.out]; simp) (by rw [mkM_row HI.out]; simp) (by omega)
          have hri := HRI.out
          rw [hvq] at hri
          simp only [Option.some.injEq, Value.slice.injEq, true_and] at hri
          obtain ⟨rfl, rfl⟩ := hri
          have LO : Lst wr w0.heap.size 28 1 (.slice (some ⟨gO, 0, none⟩) n c) n _ := hs.1.2.2.1.1
          obtain ⟨gO', curO, eO', xO, hcO⟩ := LO.box (by have := HI.out; omega)
          simp only [Option.some.injEq, Addr.mk.injEq, and_true] at eO'
          obtain rfl : gO = gO' := eO'
          have eK := hcO _ _ hvp
          have LQ : Lst wr w0.heap.size 26 4 (.slice (some ⟨gq, 0, none⟩) W cq) W xq := hs.1.1.1
          obtain ⟨gq', curQ, eQ, xQ, hcQ⟩ := LQ.box (by omega)
          simp only [Option.some.injEq, Addr.mk.injEq, and_true] at eQ
          obtain rfl : gq = gq' := eQ
          have LPr : Lst wr w0.heap.size 26 4 (.slice (some ⟨gp, 0, none⟩) W cp) W xp := hs.1.2.1.1
          obtain ⟨gp', curP, eP, xP, hcP⟩ := LPr.box (by omega)
          simp only [Option.some.injEq, Addr.mk.injEq, and_true] at eP
          obtain rfl : gp = gp' := eP
          have hxq2 := hxq
          rw [mkM_row HI.out] at hxq2
          rw [mkM_row HKN.out] at hxp
          obtain ⟨a1, a2, a3, a4, a5, a6, a7, a8, e1, e2, e3, e4, x1, x2⟩ := hxq2.els j (by simpa using hj)
          obtain ⟨b1, b2, b3, b4, b5, b6, b7, b8, e5, e6, e7, e8, y1, y2⟩ := hxq2.els k (by simpa using HKW.out)
          obtain ⟨d1, d2, d3, d4, d5, d6, d7, d8, e9, e10, e11, e12, y3, y4⟩ := hxp.els j (by simpa using hj)
          rw [show ((List.range W).map (Elm k A F (k + 1 + q) j (k + 1 + q)))[j]'(by simpa using hj) = F (k + 1 + q) j by simp [Elm_here]] at x1 x2
          rw [show ((List.range W).map (Elm k A F (k + 1 + q) j (k + 1 + q)))[k]'(by simpa using HKW.out) = F (k + 1 + q) k by simp [Elm_k]] at y1 y2
          rw [show ((List.range W).map (Elm k A F (k + 1 + q) j k))[j]'(by simpa using hj) = F k j by simp [Elm_up]] at y3 y4
          have EE := hide (Elm_div HA.out HI.out hj (by omega) (by omega) HKN.out HKW.out HDT.out)
          have LX : zl L (F (k + 1 + q) j) := by rw [HA.out _ HI.out j hj (by omega) (by omega)]; exact HBD.out k _ HI.out j hj
          have LY : zl L (F (k + 1 + q) k) := by rw [HA.out _ HI.out k HKW.out (by omega) (by omega)]; exact HBD.out k _ HI.out k HKW.out
          have LU : zl L (F k j) := by rw [HA.out k HKN.out j hj (by omega) (by omega)]; exact HBD.out k k HKN.out j hj
          replace x1 := x1.zn LX.1
          replace x2 := x2.zn LX.2
          replace y1 := y1.zn LY.1
          replace y2 := y2.zn LY.2
          replace y3 := y3.zn LU.1
          replace y4 := y4.zn LU.2
          replace e1 := hcQ _ _ e1
          replace e2 := hcQ _ _ e2
          replace e3 := hcQ _ _ e3
          replace e4 := hcQ _ _ e4
          replace e5 := hcQ _ _ e5
          replace e6 := hcQ _ _ e6
          replace e7 := hcQ _ _ e7
          replace e8 := hcQ _ _ e8
          replace e9 := hcP _ _ e9
          replace e10 := hcP _ _ e10
          replace e11 := hcP _ _ e11
          replace e12 := hcP _ _ e12
          obtain ⟨X, hX⟩ : ∃ X, F (k + 1 + q) j = X := ⟨_, rfl⟩
          obtain ⟨Y, hY⟩ : ∃ Y, F (k + 1 + q) k = Y := ⟨_, rfl⟩
          obtain ⟨U, hU⟩ : ∃ U, F k j = U := ⟨_, rfl⟩
          obtain ⟨V, hV⟩ : ∃ V : Int, Dt.det k A = (V, 0) := ⟨_, Prod.ext rfl (HRE.out k)⟩
          have HT := hide (Elm_step (k := k) (A := A) (F := F) (i := k + 1 + q) (j := j) (by omega) (by omega))
          have HTZ := hide (show True from trivial)
          obtain ⟨Z, hZ⟩ : ∃ Z, Dt.D (k + 1) A (k + 1 + q) j = Z := ⟨_, rfl⟩
          have E3 := EE.out
          rw [← HPE.out, hX, hY, hU, hV, hZ] at E3
          rw [hX] at x1 x2 LX
          rw [hY] at y1 y2 LY
          rw [hU] at y3 y4 LU
          rw [show (Dt.det k A).1 = V by rw [hV]] at hdv
          have HTS := HT.out
          rw [hZ] at HTS
          have HS := hide HTS
          have HV := hide hV
          have E1 := hide (show X.1 * P - (Y.1 * U.1 - Y.2 * U.2) = V * Z.1 by have := congrArg Prod.fst E3; simp only [sP, mP] at this; grind)
          have E2 := hide (show X.2 * P - (Y.1 * U.2 + Y.2 * U.1) = V * Z.2 by have := congrArg Prod.snd E3; simp only [sP, mP] at this; grind)
          have LM := hide (show zl (L + L + 1) (X.1 * P, X.2 * P) from ⟨Nat.le_trans (zlen_mul LX.1 LP.out) (by omega), Nat.le_trans (zlen_mul LX.2 LP.out) (by omega)⟩)
          have LN := hide (show zl (L + L + 1) (mP Y U) from zl_mP LY LU)
          have LZ := hide (show zl (L + L + 2) (V * Z.1, V * Z.2) by rw [← E1.out, ← E2.out]; exact zl_sPx LM.out LN.out)
          have hent := hdv.ent
          unfold Ent1 at hent
          clear LO hcO hvp hvq LQ hcQ hxq2 LPr hcP hxp hX hY hU hV hZ EE HT E3 LX LY LU HTS HRI
          refine wp_seq_k ?_
          intro K19 hK19
          refine wp_seq_k ?_
          intro K20 hK20
          refine rg [0, 1, 2, 3] ?_
          refine sq ?_
          refine .mv ?_
          refine sq ?_
          refine .mv ?_
          refine sq ?_
          refine .r0 ?_
          refine sq ?_
          refine .r0 ?_
          apply wpSq_end
          refine hK20 _ _ ?_
          refine ct ?_
          refine wp_skip ?_
          refine hK19 _ _ ?_
          refine wp_seq_k ?_
          intro K21 hK21
          refine wp_block ?_
          refine wp_region_f4 [(0, false), (1, false), (2, false), (3, false), (4, false), (5, false), (6, false), (7, false), (8, false), (10, false), (11, false), (12, false), (13, false), (14, false), (15, false), (16, false), (17, false), (18, false), (19, false), (20, false), (9, true), (21, true), (22, true), (23, true), (24, false)] [25] [] (fun _ => default) [99, 99, 99, 99, 99, 99, 99, 0, 1, 99, 99, 99, 99, 0, 99, 99, 99, 2, 99, 99, 3, 99, 99, 99, 99, 99] [(25, 0)] (.c xQ (.c hs.g5 (.c xO (.c xP .n)))) fn fun w_7 n7 => ?_
          replace xO := xO.bl n7; replace xQ := xQ.bl n7; replace xP := xP.bl n7; replace hs := hs.bl n7
          refine fmv ?_
          refine fmv ?_
          refine fmv ?_
          refine fmv ?_
          refine fmv ?_
          refine fmv ?_
          refine f0 ?_
          apply wpFl_ld rfl rfl; (case h1 => intro w' hC K hK; have c0 := Bs.cell hC ((j * 4)) e1; have c1 := Bs.cell hC ((j * 4) + 1) e2; have c2 := Bs.cell hC ((j * 4) + 2) e3; have c3 := Bs.cell hC ((j * 4) + 3) e4; go_big_op; exact hK); iterate 4 kernel_rfl
          refine f2 ?_
          refine fmv ?_
          refine fmv ?_
          refine f0 ?_
          apply wpFl_ld rfl rfl; (case h1 => intro w' hC K hK; have c0 := Bs.cell hC ((k * 4)) e5; have c1 := Bs.cell hC ((k * 4) + 1) e6; have c2 := Bs.cell hC ((k * 4) + 2) e7; have c3 := Bs.cell hC ((k * 4) + 3) e8; go_big_op; exact hK); iterate 4 kernel_rfl
          refine fmv ?_
          refine fmv ?_
          refine f0 ?_
          apply wpFl_ld rfl rfl; (case h1 => intro w' hC K hK; have c0 := Bs.cell hC (k) eK; go_big_op; exact hK); iterate 4 kernel_rfl
          refine fmv ?_
          refine f0 ?_
          apply wpFl_ld rfl rfl; (case h1 => intro w' hC K hK; have c0 := Bs.cell hC ((j * 4)) e9; have c1 := Bs.cell hC ((j * 4) + 1) e10; have c2 := Bs.cell hC ((j * 4) + 2) e11; have c3 := Bs.cell hC ((j * 4) + 3) e12; go_big_op; exact hK); iterate 4 kernel_rfl
          refine fl fun w_8 n8 => ?_
          replace xO := xO.bl n8; replace xQ := xQ.bl n8; replace xP := xP.bl n8; replace hs := hs.bl n8
          intro K hK
          have k0_2 := (kb n7).b n8
          replace x1 := x1.k k0_2
          replace x2 := x2.k k0_2
          replace z5 := z5.k k0_2
          go_big_op
          go_fit (timesWhole_any (.mk' x1 x2) (z5.zn Lz5.out) HL4.out HL4.out HL4.out)
          rintro e w_9 ⟨_, rfl, ⟨n_fa, o_fa, k_fa, c_fa, n_fb, o_fb, k_fb, c_fb, rfl, f1, f2⟩, hb_9⟩
          replace xO := xO.bl hb_9; replace xQ := xQ.bl hb_9; replace xP := xP.bl hb_9; replace hs := hs.bl hb_9
          have Lf1 := hide (f1.lenOf (LM.out.1))
          have Lf2 := hide (f2.lenOf (LM.out.2))
          refine hK _ _ rfl ⟨hb_9, (And.intro xQ (And.intro hs.g5 (And.intro xO (And.intro xP trivial))))⟩ ?_
          clear hK K
          refine fl fun w_10 n10 => ?_
          replace xO := xO.bl n10; replace xQ := xQ.bl n10; replace xP := xP.bl n10; replace hs := hs.bl n10
          intro K hK
          have k0_4 := (k0_2.b hb_9).b n10
          replace y1 := y1.k k0_4
          replace y2 := y2.k k0_4
          replace y3 := y3.k k0_4
          replace y4 := y4.k k0_4
          go_big_op
          go_fit (gMul_any (.mk' y1 y2) (.mk' y3 y4) HL4.out HL4.out HL4.out HL4.out)
          rintro e w_11 ⟨_, rfl, ⟨n_ga, o_ga, k_ga, c_ga, n_gb, o_gb, k_gb, c_gb, rfl, g1, g2⟩, hb_11⟩
          replace xO := xO.bl hb_11; replace xQ := xQ.bl hb_11; replace xP := xP.bl hb_11; replace hs := hs.bl hb_11
          have Lg1 := hide (g1.lenOf (LN.out.1))
          have Lg2 := hide (g2.lenOf (LN.out.2))
          refine hK _ _ rfl ⟨hb_11, (And.intro xQ (And.intro hs.g5 (And.intro xO (And.intro xP trivial))))⟩ ?_
          clear hK K
          refine fl fun w_12 n12 => ?_
          replace xO := xO.bl n12; replace xQ := xQ.bl n12; replace xP := xP.bl n12; replace hs := hs.bl n12
          intro K hK
          have k3_6 := ((kb n10).b hb_11).b n12
          replace f1 := f1.k k3_6
          replace f2 := f2.k k3_6
          have k5_6 := kb n12
          replace g1 := g1.k k5_6
          replace g2 := g2.k k5_6
          go_big_op
          go_fit (gSub_any (.mk' (f1.zn Lf1.out) (f2.zn Lf2.out)) (.mk' (g1.zn Lg1.out) (g2.zn Lg2.out)) HL5.out HL5.out HL5.out HL5.out)
          rintro e w_13 ⟨_, rfl, ⟨n_sa, o_sa, k_sa, c_sa, n_sb, o_sb, k_sb, c_sb, rfl, s1, s2⟩, hb_13⟩
          replace xO := xO.bl hb_13; replace xQ := xQ.bl hb_13; replace xP := xP.bl hb_13; replace hs := hs.bl hb_13
          rw [E1.out] at s1
          rw [E2.out] at s2
          refine hK _ _ rfl ⟨hb_13, (And.intro xQ (And.intro hs.g5 (And.intro xO (And.intro xP trivial))))⟩ ?_
          clear hK K
          refine fl fun w_14 n14 => ?_
          replace xO := xO.bl n14; replace xQ := xQ.bl n14; replace xP := xP.bl n14; replace hs := hs.bl n14
          intro K hK
          have k0_8 := (((k0_4.b hb_11).b n12).b hb_13).b n14
          replace hdv := hdv.k k0_8
          have k7_8 := kb n14
          replace s1 := s1.k k7_8
          replace s2 := s2.k k7_8
          go_big_op
          go_fit (hdv.call (hs.sub (.cons _ (.cons _ (.cons _ (.cons _ (.cons _ (.cons _ ((List.sublist_append_left ([] : List En) bs).trans (List.sublist_append_left _ _))))))))).1 (.mk' s1 s2) LZ.out HL6.out)
          rintro e w_15 ⟨_, rfl, ⟨n_ta, o_ta, k_ta, c_ta, n_tb, o_tb, k_tb, c_tb, rfl, t1, t2⟩, hb_15⟩
          replace xO := xO.bl hb_15; replace xQ := xQ.bl hb_15; replace xP := xP.bl hb_15; replace hs := hs.bl hb_15
          refine hK _ _ rfl ⟨hb_15, (And.intro xQ (And.intro hs.g5 (And.intro xO (And.intro xP trivial))))⟩ ?_
          clear hK K
          refine f0 ?_
          refine e0 hs ?_; clear hs; intro w_16 hs n16
          clear f1 f2 g1 g2 s1 s2
          replace xO := xO.bl n16; replace xQ := xQ.bl n16; replace xP := xP.bl n16
          refine tl ?_
          refine .i4 0 hs (j := j) (by exact HJ.out) ?_ (e := fun _ hB hO => (And.intro True.intro (And.intro (hs.g5.frame hO (hs.ne 5 0)) (And.intro (xO.frame hO (hs.ne 2 0)) (And.intro (xP.frame hO (hs.ne 1 0)) True.intro))))); clear hs; intro w_17 hs kp17 hd17 ho17 hw17; simp only [List.set_cons_zero] at hs
          clear xO
          clear xQ
          clear xP
          apply wpTail_end
          refine hK21 _ _ ?_
          refine rg [0, 1, 2] ?_
          refine sq ?_
          refine .mv ?_
          refine sq ?_
          refine .r0 ?_
          refine sq ?_
          refine .mv ?_
          apply wpSq_end
          have k0_11 := ((k0_8.b hb_15).b n16).t kp17
          replace hd := hd.k k0_11
          replace hxq := hxq.k k0_11
          have k9_11 := (kb n16).t kp17
          replace t1 := t1.k k9_11
          replace t2 := t2.k k9_11
          have k2_11 := ((((((((kb hb_9).b n10).b hb_11).b n12).b hb_13).b n14).b hb_15).b n16).t kp17
          replace z5 := z5.k k2_11
          replace hL9 := hL9.k k0_11
          have k8_11 := ((kb hb_15).b n16).t kp17
          replace hdv := hdv.k k8_11
          replace kk := kk.k k0_11
          refine ‹∀ (a' : Act) (w' : World), Handed _ _ a' w' → _› _ _ ?_
          have hs := hs.unrows2 (bs := bx pt #[.slice (some ⟨gO, 0, none⟩) n c] 30 :: ls w0.heap.size 24 2 (.slice o9 k c9) k xs :: bx p_b1 #[.bool n_p, .slice o_p k_p c_p] 24 :: (([] : List En) ++ bs))
          rw [mkM_row HI.out] at hxq
          have hd := RD.set' (r1 := a ++ (⟨.slice (some ⟨gp, 0, none⟩) W cp, W, xp⟩ : Rw) :: b) (v := .slice (some ⟨gq, 0, none⟩) W cq) (n := W) (by simp) (GD.put t1 t2 hxq (q := j) (by simpa using HJ.out)) (by simpa using hd) hab
          rw [show ((Z.1, Z.2) : Int × Int) = Z from rfl, mkM_set HI.out, HS.out] at hd
          rw [show V = (Dt.det k A).1 by rw [HV.out]] at hdv
          go_roundg (gk - 1)
          case rel => exact ⟨j + 1, _, by rfl, by omega, by omega, by simpa using hrl, by simpa using hd, by rw [List.map_append, List.map_cons, List.map_append, List.map_cons, ← List.cons_append, ← List.append_assoc, List.getElem?_append_right (by simpa using Nat.le_of_eq hab)]; simp at hab ⊢; simp [← hab], z5, hL9, hdv, kk, hs⟩
          case measure => omega
        · obtain rfl : W = j := by omega
          have HX := hide hj
          refine wp_seq_k ?_
          intro K19 hK19
          refine wp_seq_k ?_
          intro K20 hK20
          refine rg [0, 1, 2, 3] ?_
          refine sq ?_
          refine .mv ?_
          refine sq ?_
          refine .mv ?_
          refine sq ?_
          refine .r0 ?_
          refine sq ?_
          refine .r0 ?_
          apply wpSq_end
          refine hK20 _ _ ?_
          refine cf ?_
          refine wp_exit ?_
          refine hK16 _ _ ?_
          refine rg [0, 1] ?_
          refine sq ?_
          refine .r0 ?_
          refine sq ?_
          refine .mv ?_
          apply wpSq_end
          refine HO2 _ _ ?_
          go_roundg (g2 - 1)
          case rel => exact ⟨q + 1, rs, by rfl, by omega, hrl, by rw [show k + 1 + (q + 1) = k + 1 + q + 1 from rfl, ← Elm_row]; exact hd, z5, hL9, hdv, kk, hs⟩
          case measure => omega
      · have hqe : k + 1 + q = n := by omega
        have HX := hide hq
        have HE := hide hqe
        clear hqe
        refine wp_seq_k ?_
        intro K14 hK14
        refine rg [0] ?_
        refine sq ?_
        refine .r0 ?_
        apply wpSq_end
        refine hK14 _ _ ?_
        refine wp_seq_k ?_
        intro K15 hK15
        refine cf ?_
        refine wp_exit ?_
        refine hK12 _ _ ?_
        refine rg [0, 1, 2, 3, 4] ?_
        refine sq ?_
        refine .mv ?_
        refine sq ?_
        refine .r2 hs.g3.f2 ?_
        refine sq ?_
        refine .al hs ?_; clear hs; intro p_b2 w_6 hs n6 kb_b2
        refine sq ?_
        have k0_1 := kb n6
        replace hL9 := hL9.k k0_1
        replace z5 := z5.k k0_1
        replace hL9 := hL9.snoc z5
        refine .ap 3 hs hs.g0 ?_; clear hs; intro o_L_7 c_L_7 w_7 hs kp7 hw7; simp only [List.set_cons_succ, List.set_cons_zero] at hs
        refine sq ?_
        refine .mv ?_
        apply wpSq_end
        refine hK7 _ _ ?_
        refine rg [0, 1, 2] ?_
        refine sq ?_
        refine .mv ?_
        refine sq ?_
        refine .r0 ?_
        refine sq ?_
        refine .mv ?_
        apply wpSq_end
        have k0_2 := k0_1.t kp7
        replace hd := hd.k k0_2
        have k1_2 := kp7
        replace hL9 := hL9.k k1_2
        replace kk := kk.k k0_2
        refine HO _ _ ?_
        have hs := hs.sub (show List.Sublist (ls w0.heap.size 28 1 (.slice o n c) n (rs.map (·.v)) :: bx pt #[.slice o n c] 30 :: _ :: (bs ++ rs.map (Rw.e w0.heap.size))) _ from .cons _ (.cons_cons _ (.cons_cons _ (.cons_cons _ (.cons _ (List.Sublist.append_right (List.sublist_append_right ([] : List En) bs) _))))))
        go_roundg (g1 - 1)
        case rel => exact ⟨k + 1, Elm k A F n (k + 1), rs, fz2, caps2, _, _, _, by rfl, rfl, by rfl, by omega, hide (fun h => absurd h (by omega)), HQ2, hide Elm_end, hrl, by rw [← HE.out] at hd ⊢; exact hd, by rw [pvz_succ, ← Dt.D_diag, ← HPE.out]; exact hL9, kk, hs⟩
        case measure => omega
    · have t1 : 0 < k := by omega
      obtain ⟨k1, hk1⟩ : ∃ k1, k = k1 + 1 := ⟨k - 1, by omega⟩
      have HK1 := hide hk1
      have LL : Lst w_4 w0.heap.size 24 2 (.slice o9 k c9) k xs := (hs.1.at (i := 3) rfl).1
      obtain ⟨gL, curL, rfl, xL, hcL⟩ := LL.box t1
      have k0_3 := (kp2.b n3).o hd4 ho4
      replace hL9 := hL9.k k0_3
      obtain ⟨l1, l2, l3, l4, e1, e2, v1⟩ := hL9.els k1 (by rw [pvz_len]; omega)
      rw [show (pvz A k)[k1]'(by rw [pvz_len]; omega) = (Dt.det k A).1 by simp [pvz, hk1]] at v1
      replace e1 := hcL _ _ e1
      replace e2 := hcL _ _ e2
      have LV : zl L (Dt.det k A) := by rw [hk1, ← Dt.D_diag]; exact HBD.out k1 k1 (by omega) k1 (by omega)
      replace v1 := v1.zn LV.1
      have HN0 := hide (show (Dt.det k A).1 ≠ 0 from fun c => HDT.out (Prod.ext c (HRE.out k)))
      have HLL := hide (show L ≤ 10000000 by omega)
      have EK1 : (k : Int) - 1 = (k1 : Int) := by omega
      clear LL hcL hk0 LV hk1
      refine ct ?_
      refine rg [0, 1, 2, 3, 4, 5, 6, 7] ?_
      refine sq ?_
      refine .mv ?_
      refine sq ?_
      refine .mv ?_
      refine sq ?_
      refine .mv ?_
      refine sq ?_
      refine .r0 ?_
      refine sq ?_
      refine .r0 ?_
      refine sq ?_
      refine .r2 ⟨xL.cell _ e1, xL.cell _ e2⟩ ?_
      refine sq ?_
      intro K hK
      go_big_op
      go_fit (overWholeS hs v1 HLL.out HN0.out)
      have bb5 := hs.b
      rintro e w_5 ⟨f3, caps3, ds3, rfl, hdv, hs', kp5⟩
      clear hs; have hs := hs'; clear hs'
      have bc5 := hs.b
      clear xL
      clear bb5 bc5
      have k0_4 := k0_3.t kp5
      replace hd := hd.k k0_4
      replace hs := hs.perm (perm_in (hd := [_, _, _, _]))
      refine hK _ _ rfl trivial ?_
      clear hK K
      refine sq ?_
      refine .mv ?_
      apply wpSq_end
      refine hK9 _ _ ?_
      refine wp_seq_k ?_
      intro K12 hK12
      refine wp_seq_k ?_
      intro K13 hK13
      refine rg [0, 1, 2, 3, 4, 5] ?_
      refine sq ?_
      refine .mv ?_
      refine sq ?_
      refine .mv ?_
      refine sq ?_
      refine .r0 ?_
      refine sq ?_
      refine .r0 ?_
      refine sq ?_
      refine .r0 ?_
      refine sq ?_
      refine .mv ?_
      apply wpSq_end
      refine hK13 _ _ ?_
      refine wp_block ?_
      generalize hoT : (@ite (Option Addr) (c = k + 1) _ o _) = oT
      have HT := hide hoT
      clear hoT
      have hs := hs.perm ((List.Perm.swap _ _ _).trans (List.Perm.cons _ ((List.Perm.swap _ _ _).trans (List.Perm.cons _ (List.Perm.swap _ _ _)))))
      have k1_4 := ((kb n3).o hd4 ho4).t kp5
      replace hd2 := hd2.k k1_4
      replace p := p.k k1_4
      have k3_4 := kp5
      replace hL9 := hL9.k k3_4
      replace kk := kk.k k0_4
      have hd6 := hs.2.1
      go_loopg [43] (n - (k + 1)) (fun kz s43 wr => ∃ (q : Nat) (rs : List Rw), s43 = .int .i64 (q : Int) ∧ q + kz = n - (k + 1) ∧ rs.length = n ∧ RD wr rs (mkM n W (Elm k A F (k + 1 + q) (k + 1))) ∧ ZC wr (.agg #[.bool n_p, .slice o_p k_p c_p]) P ∧ ZL wr xs (pvz A k) ∧ DivZ wr f3 caps3 ds3 (Dt.det k A).1 ∧ KpF w wr ∧
        St w0 (ls w0.heap.size 28 1 (.slice o n c) n (rs.map (·.v)) :: bx pt #[.slice o n c] 30 :: ls w0.heap.size 24 2 (.slice (some ⟨gL, 0, none⟩) k c9) k xs :: bx p_b1 #[.bool n_p, .slice o_p k_p c_p] 24 :: ((ds3 ++ bs) ++ rs.map (Rw.e w0.heap.size))) wr)
      case atStart => exact ⟨0, rs, rfl, by omega, hrl, by rw [Nat.add_zero, ← Elm_0]; exact hd2, p, hL9, hdv, kk, hs⟩
      case round =>
      clear hL9 hd kk p hd2 v1 hdv hs
      obtain ⟨q, rs, rfl, hqn, hrl, hd, z5, hL9, hdv, kk, hs⟩ := hrel
      have HO2 := ‹∀ (a' : Act) (w' : World), Handed _ _ a' w' → _›
      obtain ⟨g2, hg2⟩ : ∃ g, gk = g := ⟨_, rfl⟩
      have Lz5 := hide LP.out
      by_cases hq : q < n - (k + 1)
      · have HQQ := hide hq
        have HI := hide (show k + 1 + q < n by omega)
        obtain ⟨oi, ci, hvi⟩ := hs.rowv (bs := bx pt #[.slice o n c] 30 :: ls w0.heap.size 24 2 (.slice (some ⟨gL, 0, none⟩) k c9) k xs :: bx p_b1 #[.bool n_p, .slice o_p k_p c_p] 24 :: (ds3 ++ bs)) hd (p := k + 1 + q) (K := W) (by rw [len_mkM]; omega) (by rw [mkM_row (by omega)]; simp)
        have LO : Lst wr w0.heap.size 28 1 (.slice o n c) n _ := hs.1.1.1
        obtain ⟨gO, curO, rfl, xO, hcO⟩ := LO.box (by omega)
        have eI := hcO _ _ hvi
        have hcap := LO.capn
        obtain rfl : oT = some ⟨gO, k + 1, none⟩ := by
          have := HT.out
          rw [if_neg (by omega)] at this
          rw [← this]; simp
        clear LO hcO HT
        refine wp_seq_k ?_
        intro K14 hK14
        refine rg [0] ?_
        refine sq ?_
        refine .r0 ?_
        apply wpSq_end
        refine hK14 _ _ ?_
        refine wp_seq_k ?_
        intro K15 hK15
        refine ct ?_
        refine wp_skip ?_
        refine hK15 _ _ ?_
        refine wp_seq_k ?_
        intro K16 hK16
        refine wp_block ?_
        refine wp_seq_k ?_
        intro K17 hK17
        refine rg [0, 1, 2] ?_
        refine sq ?_
        refine .r0 ?_
        refine sq ?_
        refine .r1 (xO.cell _ eI) ?_
        refine sq ?_
        refine .mv ?_
        apply wpSq_end
        refine hK17 _ _ ?_
        refine wp_seq_k ?_
        intro K18 hK18
        refine rg [0, 1, 2] ?_
        refine sq ?_
        refine .mv ?_
        refine sq ?_
        refine .r0 ?_
        refine sq ?_
        refine .mv ?_
        apply wpSq_end
        refine hK18 _ _ ?_
        refine wp_block ?_
        have hd7 := hs.2.1
        go_loopg [16] (W - (k + 1)) (fun kz s16 wr => ∃ (j : Nat) (rs : List Rw), s16 = .int .i64 (j : Int) ∧ j + kz = W ∧ k + 1 ≤ j ∧ rs.length = n ∧ RD wr rs (mkM n W (Elm k A F (k + 1 + q) j)) ∧ (rs.map (·.v))[k + 1 + q]? = some (.slice oi W ci) ∧ ZC wr (.agg #[.bool n_p, .slice o_p k_p c_p]) P ∧ ZL wr xs (pvz A k) ∧ DivZ wr f3 caps3 ds3 (Dt.det k A).1 ∧ KpF w wr ∧
          St w0 (ls w0.heap.size 28 1 (.slice (some ⟨gO, 0, none⟩) n c) n (rs.map (·.v)) :: bx pt #[.slice (some ⟨gO, 0, none⟩) n c] 30 :: ls w0.heap.size 24 2 (.slice (some ⟨gL, 0, none⟩) k c9) k xs :: bx p_b1 #[.bool n_p, .slice o_p k_p c_p] 24 :: ((ds3 ++ bs) ++ rs.map (Rw.e w0.heap.size))) wr)
        case atStart => exact ⟨k + 1, rs, by rfl, by omega, Nat.le_refl _, hrl, hd, hvi, z5, hL9, hdv, kk, hs⟩
        case round =>
        clear hrl hvi
        clear z5 hL9 hd kk hdv xO hs
        obtain ⟨j, rs, rfl, hjW, hkj, hrl, hd, hri, z5, hL9, hdv, kk, hs⟩ := hrel
        have HRI := hide hri
        clear hri
        have Lz5 := hide LP.out
        by_cases hj : j < W
        · have HJ := hide hj
          obtain ⟨a, gp, cp, xp, b, gq, cq, xq, r2, rfl, hab, hvp, hvq, hxp, hxq, hs⟩ := hs.rows2 (bs := bx pt #[.slice (some ⟨gO, 0, none⟩) n c] 30 :: ls w0.heap.size 24 2 (.slice (some ⟨gL, 0, none⟩) k c9) k xs :: bx p_b1 #[.bool n_p, .slice o_p k_p c_p] 24 :: (ds3 ++ bs)) hd (p := k) (q := k + 1 + q) (K := W) (by omega) (by rw [len_mkM]; exact HI.out) (by rw [mkM_row HKN.out]; simp) (by rw [mkM_row HI.out]; simp) (by omega)
          have hri := HRI.out
          rw [hvq] at hri
          simp only [Option.some.injEq, Value.slice.injEq, true_and] at hri
          obtain ⟨rfl, rfl⟩ := hri
          have LO : Lst wr w0.heap.size 28 1 (.slice (some ⟨gO, 0, none⟩) n c) n _ := hs.1.2.2.1.1
          obtain ⟨gO', curO, eO', xO, hcO⟩ := LO.box (by have := HI.out; omega)
          simp only [Option.some.injEq, Addr.mk.injEq, and_true] at eO'
          obtain rfl : gO = gO' := eO'
          have eK := hcO _ _ hvp
          have LQ : Lst wr w0.heap.size 26 4 (.slice (some ⟨gq, 0, none⟩) W cq) W xq := hs.1.1.1
          obtain ⟨gq', curQ, eQ, xQ, hcQ⟩ := LQ.box (by omega)
          simp only [Option.some.injEq, Addr.mk.injEq, and_true] at eQ
          obtain rfl : gq = gq' := eQ
          have LPr : Lst wr w0.heap.size 26 4 (.slice (some ⟨gp, 0, none⟩) W cp) W xp := hs.1.2.1.1
          obtain ⟨gp', curP, eP, xP, hcP⟩ := LPr.box (by omega)
          simp only [Option.some.injEq, Addr.mk.injEq, and_true] at eP
          obtain rfl : gp = gp' := eP
          have hxq2 := hxq
          rw [mkM_row HI.out] at hxq2
          rw [mkM_row HKN.out] at hxp
          obtain ⟨a1, a2, a3, a4, a5, a6, a7, a8, e1, e2, e3, e4, x1, x2⟩ := hxq2.els j (by simpa using hj)
          obtain ⟨b1, b2, b3, b4, b5, b6, b7, b8, e5, e6, e7, e8, y1, y2⟩ := hxq2.els k (by simpa using HKW.out)
          obtain ⟨d1, d2, d3, d4, d5, d6, d7, d8, e9, e10, e11, e12, y3, y4⟩ := hxp.els j (by simpa using hj)
          rw [show ((List.range W).map (Elm k A F (k + 1 + q) j (k + 1 + q)))[j]'(by simpa using hj) = F (k + 1 + q) j by simp [Elm_here]] at x1 x2
          rw [show ((List.range W).map (Elm k A F (k + 1 + q) j (k + 1 + q)))[k]'(by simpa using HKW.out) = F (k + 1 + q) k by simp [Elm_k]] at y1 y2
          rw [show ((List.range W).map (Elm k A F (k + 1 + q) j k))[j]'(by simpa using hj) = F k j by simp [Elm_up]] at y3 y4
          have EE := hide (Elm_div HA.out HI.out hj (by omega) (by omega) HKN.out HKW.out HDT.out)
          have LX : zl L (F (k + 1 + q) j) := by rw [HA.out _ HI.out j hj (by omega) (by omega)]; exact HBD.out k _ HI.out j hj
          have LY : zl L (F (k + 1 + q) k) := by rw [HA.out _ HI.out k HKW.out (by omega) (by omega)]; exact HBD.out k _ HI.out k HKW.out
          have LU : zl L (F k j) := by rw [HA.out k HKN.out j hj (by omega) (by omega)]; exact HBD.out k k HKN.out j hj
          replace x1 := x1.zn LX.1
          replace x2 := x2.zn LX.2
          replace y1 := y1.zn LY.1
          replace y2 := y2.zn LY.2
          replace y3 := y3.zn LU.1
          replace y4 := y4.zn LU.2
          replace e1 := hcQ _ _ e1
          replace e2 := hcQ _ _ e2
          replace e3 := hcQ _ _ e3
          replace e4 := hcQ _ _ e4
          replace e5 := hcQ _ _ e5
          replace e6 := hcQ _ _ e6
          replace e7 := hcQ _ _ e7
          replace e8 := hcQ _ _ e8
          replace e9 := hcP _ _ e9
          replace e10 := hcP _ _ e10
          replace e11 := hcP _ _ e11
          replace e12 := hcP _ _ e12
          obtain ⟨X, hX⟩ : ∃ X, F (k + 1 + q) j = X := ⟨_, rfl⟩
          obtain ⟨Y, hY⟩ : ∃ Y, F (k + 1 + q) k = Y := ⟨_, rfl⟩
          obtain ⟨U, hU⟩ : ∃ U, F k j = U := ⟨_, rfl⟩
          obtain ⟨V, hV⟩ : ∃ V : Int, Dt.det k A = (V, 0) := ⟨_, Prod.ext rfl (HRE.out k)⟩
          have HT := hide (Elm_step (k := k) (A := A) (F := F) (i := k + 1 + q) (j := j) (by omega) (by omega))
          have HTZ := hide (show True from trivial)
          obtain ⟨Z, hZ⟩ : ∃ Z, Dt.D (k + 1) A (k + 1 + q) j = Z := ⟨_, rfl⟩
          have E3 := EE.out
          rw [← HPE.out, hX, hY, hU, hV, hZ] at E3
          rw [hX] at x1 x2 LX
          rw [hY] at y1 y2 LY
          rw [hU] at y3 y4 LU
          rw [show (Dt.det k A).1 = V by rw [hV]] at hdv
          have HTS := HT.out
          rw [hZ] at HTS
          have HS := hide HTS
          have HV := hide hV
          have E1 := hide (show X.1 * P - (Y.1 * U.1 - Y.2 * U.2) = V * Z.1 by have := congrArg Prod.fst E3; simp only [sP, mP] at this; grind)
          have E2 := hide (show X.2 * P - (Y.1 * U.2 + Y.2 * U.1) = V * Z.2 by have := congrArg Prod.snd E3; simp only [sP, mP] at this; grind)
          have LM := hide (show zl (L + L + 1) (X.1 * P, X.2 * P) from ⟨Nat.le_trans (zlen_mul LX.1 LP.out) (by omega), Nat.le_trans (zlen_mul LX.2 LP.out) (by omega)⟩)
          have LN := hide (show zl (L + L + 1) (mP Y U) from zl_mP LY LU)
          have LZ := hide (show zl (L + L + 2) (V * Z.1, V * Z.2) by rw [← E1.out, ← E2.out]; exact zl_sPx LM.out LN.out)
          have hent := hdv.ent
          unfold Ent1 at hent
          clear LO hcO hvp hvq LQ hcQ hxq2 LPr hcP hxp hX hY hU hV hZ EE HT E3 LX LY LU HTS HRI
          refine wp_seq_k ?_
          intro K19 hK19
          refine wp_seq_k ?_
          intro K20 hK20
          refine rg [0, 1, 2, 3] ?_
          refine sq ?_
          refine .mv ?_
          refine sq ?_
          refine .mv ?_
          refine sq ?_
          refine .r0 ?_
          refine sq ?_
          refine .r0 ?_
          apply wpSq_end
          refine hK20 _ _ ?_
          refine ct ?_
          refine wp_skip ?_
          refine hK19 _ _ ?_
          refine wp_seq_k ?_
          intro K21 hK21
          refine wp_block ?_
          refine wp_region_f4 [(0, false), (1, false), (2, false), (3, false), (4, false), (5, false), (6, false), (7, false), (8, false), (10, false), (11, false), (12, false), (13, false), (14, false), (15, false), (16, false), (17, false), (18, false), (19, false), (20, false), (9, true), (21, true), (22, true), (23, true), (24, false)] [25] [] (fun _ => default) [99, 99, 99, 99, 99, 99, 99, 0, 1, 99, 99, 99, 99, 0, 99, 99, 99, 2, 99, 99, 3, 99, 99, 99, 99, 99] [(25, 0)] (.c xQ (.c hs.g5 (.c xO (.c xP .n)))) fn fun w_8 n8 => ?_
          replace xO := xO.bl n8; replace xQ := xQ.bl n8; replace xP := xP.bl n8; replace hs := hs.bl n8
          refine fmv ?_
          refine fmv ?_
          refine fmv ?_
          refine fmv ?_
          refine fmv ?_
          refine fmv ?_
          refine f0 ?_
          apply wpFl_ld rfl rfl; (case h1 => intro w' hC K hK; have c0 := Bs.cell hC ((j * 4)) e1; have c1 := Bs.cell hC ((j * 4) + 1) e2; have c2 := Bs.cell hC ((j * 4) + 2) e3; have c3 := Bs.cell hC ((j * 4) + 3) e4; go_big_op; exact hK); iterate 4 kernel_rfl
          refine f2 ?_
          refine fmv ?_
          refine fmv ?_
          refine f0 ?_
          apply wpFl_ld rfl rfl; (case h1 => intro w' hC K hK; have c0 := Bs.cell hC ((k * 4)) e5; have c1 := Bs.cell hC ((k * 4) + 1) e6; have c2 := Bs.cell hC ((k * 4) + 2) e7; have c3 := Bs.cell hC ((k * 4) + 3) e8; go_big_op; exact hK); iterate 4 kernel_rfl
          refine fmv ?_
          refine fmv ?_
          refine f0 ?_
          apply wpFl_ld rfl rfl; (case h1 => intro w' hC K hK; have c0 := Bs.cell hC (k) eK; go_big_op; exact hK); iterate 4 kernel_rfl
          refine fmv ?_
          refine f0 ?_
          apply wpFl_ld rfl rfl; (case h1 => intro w' hC K hK; have c0 := Bs.cell hC ((j * 4)) e9; have c1 := Bs.cell hC ((j * 4) + 1) e10; have c2 := Bs.cell hC ((j * 4) + 2) e11; have c3 := Bs.cell hC ((j * 4) + 3) e12; go_big_op; exact hK); iterate 4 kernel_rfl
          refine fl fun w_9 n9 => ?_
          replace xO := xO.bl n9; replace xQ := xQ.bl n9; replace xP := xP.bl n9; replace hs := hs.bl n9
          intro K hK
          have k0_2 := (kb n8).b n9
          replace x1 := x1.k k0_2
          replace x2 := x2.k k0_2
          replace z5 := z5.k k0_2
          go_big_op
          go_fit (timesWhole_any (.mk' x1 x2) (z5.zn Lz5.out) HL4.out HL4.out HL4.out)
          rintro e w_10 ⟨_, rfl, ⟨n_fa, o_fa, k_fa, c_fa, n_fb, o_fb, k_fb, c_fb, rfl, f1, f2⟩, hb_10⟩
          replace xO := xO.bl hb_10; replace xQ := xQ.bl hb_10; replace xP := xP.bl hb_10; replace hs := hs.bl hb_10
          have Lf1 := hide (f1.lenOf (LM.out.1))
          have Lf2 := hide (f2.lenOf (LM.out.2))
          refine hK _ _ rfl ⟨hb_10, (And.intro xQ (And.intro hs.g5 (And.intro xO (And.intro xP trivial))))⟩ ?_
          clear hK K
          refine fl fun w_11 n11 => ?_
          replace xO := xO.bl n11; replace xQ := xQ.bl n11; replace xP := xP.bl n11; replace hs := hs.bl n11
          intro K hK
          have k0_4 := (k0_2.b hb_10).b n11
          replace y1 := y1.k k0_4
          replace y2 := y2.k k0_4
          replace y3 := y3.k k0_4
          replace y4 := y4.k k0_4
          go_big_op
          go_fit (gMul_any (.mk' y1 y2) (.mk' y3 y4) HL4.out HL4.out HL4.out HL4.out)
          rintro e w_12 ⟨_, rfl, ⟨n_ga, o_ga, k_ga, c_ga, n_gb, o_gb, k_gb, c_gb, rfl, g1, g2⟩, hb_12⟩
          replace xO := xO.bl hb_12; replace xQ := xQ.bl hb_12; replace xP := xP.bl hb_12; replace hs := hs.bl hb_12
          have Lg1 := hide (g1.lenOf (LN.out.1))
          have Lg2 := hide (g2.lenOf (LN.out.2))
          refine hK _ _ rfl ⟨hb_12, (And.intro xQ (And.intro hs.g5 (And.intro xO (And.intro xP trivial))))⟩ ?_
          clear hK K
          refine fl fun w_13 n13 => ?_
          replace xO := xO.bl n13; replace xQ := xQ.bl n13; replace xP := xP.bl n13; replace hs := hs.bl n13
          intro K hK
          have k3_6 := ((kb n11).b hb_12).b n13
          replace f1 := f1.k k3_6
          replace f2 := f2.k k3_6
          have k5_6 := kb n13
          replace g1 := g1.k k5_6
          replace g2 := g2.k k5_6
          go_big_op
          go_fit (gSub_any (.mk' (f1.zn Lf1.out) (f2.zn Lf2.out)) (.mk' (g1.zn Lg1.out) (g2.zn Lg2.out)) HL5.out HL5.out HL5.out HL5.out)
          rintro e w_14 ⟨_, rfl, ⟨n_sa, o_sa, k_sa, c_sa, n_sb, o_sb, k_sb, c_sb, rfl, s1, s2⟩, hb_14⟩
          replace xO := xO.bl hb_14; replace xQ := xQ.bl hb_14; replace xP := xP.bl hb_14; replace hs := hs.bl hb_14
          rw [E1.out] at s1
          rw [E2.out] at s2
          refine hK _ _ rfl ⟨hb_14, (And.intro xQ (And.intro hs.g5 (And.intro xO (And.intro xP trivial))))⟩ ?_
          clear hK K
          refine fl fun w_15 n15 => ?_
          replace xO := xO.bl n15; replace xQ := xQ.bl n15; replace xP := xP.bl n15; replace hs := hs.bl n15
          intro K hK
          have k0_8 := (((k0_4.b hb_12).b n13).b hb_14).b n15
          replace hdv := hdv.k k0_8
          have k7_8 := kb n15
          replace s1 := s1.k k7_8
          replace s2 := s2.k k7_8
          go_big_op
          go_fit (hdv.call (hs.sub (.cons _ (.cons _ (.cons _ (.cons _ (.cons _ (.cons _ ((List.sublist_append_left ds3 bs).trans (List.sublist_append_left _ _))))))))).1 (.mk' s1 s2) LZ.out HL6.out)
          rintro e w_16 ⟨_, rfl, ⟨n_ta, o_ta, k_ta, c_ta, n_tb, o_tb, k_tb, c_tb, rfl, t1, t2⟩, hb_16⟩
          replace xO := xO.bl hb_16; replace xQ := xQ.bl hb_16; replace xP := xP.bl hb_16; replace hs := hs.bl hb_16
          refine hK _ _ rfl ⟨hb_16, (And.intro xQ (And.intro hs.g5 (And.intro xO (And.intro xP trivial))))⟩ ?_
          clear hK K
          refine f0 ?_
          refine e0 hs ?_; clear hs; intro w_17 hs n17
          clear f1 f2 g1 g2 s1 s2
          replace xO := xO.bl n17; replace xQ := xQ.bl n17; replace xP := xP.bl n17
          refine tl ?_
          refine .i4 0 hs (j := j) (by exact HJ.out) ?_ (e := fun _ hB hO => (And.intro True.intro (And.intro (hs.g5.frame hO (hs.ne 5 0)) (And.intro (xO.frame hO (hs.ne 2 0)) (And.intro (xP.frame hO (hs.ne 1 0)) True.intro))))); clear hs; intro w_18 hs kp18 hd18 ho18 hw18; simp only [List.set_cons_zero] at hs
          clear xO
          clear xQ
          clear xP
          apply wpTail_end
          refine hK21 _ _ ?_
          refine rg [0, 1, 2] ?_
          refine sq ?_
          refine .mv ?_
          refine sq ?_
          refine .r0 ?_
          refine sq ?_
          refine .mv ?_
          apply wpSq_end
          have k0_11 := ((k0_8.b hb_16).b n17).t kp18
          replace hd := hd.k k0_11
          replace hxq := hxq.k k0_11
          have k9_11 := (kb n17).t kp18
          replace t1 := t1.k k9_11
          replace t2 := t2.k k9_11
          have k2_11 := ((((((((kb hb_10).b n11).b hb_12).b n13).b hb_14).b n15).b hb_16).b n17).t kp18
          replace z5 := z5.k k2_11
          replace hL9 := hL9.k k0_11
          have k8_11 := ((kb hb_16).b n17).t kp18
          replace hdv := hdv.k k8_11
          replace kk := kk.k k0_11
          refine ‹∀ (a' : Act) (w' : World), Handed _ _ a' w' → _› _ _ ?_
          have hs := hs.unrows2 (bs := bx pt #[.slice (some ⟨gO, 0, none⟩) n c] 30 :: ls w0.heap.size 24 2 (.slice (some ⟨gL, 0, none⟩) k c9) k xs :: bx p_b1 #[.bool n_p, .slice o_p k_p c_p] 24 :: (ds3 ++ bs))
          rw [mkM_row HI.out] at hxq
          have hd := RD.set' (r1 := a ++ (⟨.slice (some ⟨gp, 0, none⟩) W cp, W, xp⟩ : Rw) :: b) (v := .slice (some ⟨gq, 0, none⟩) W cq) (n := W) (by simp) (GD.put t1 t2 hxq (q := j) (by simpa using HJ.out)) (by simpa using hd) hab
          rw [show ((Z.1, Z.2) : Int × Int) = Z from rfl, mkM_set HI.out, HS.out] at hd
          rw [show V = (Dt.det k A).1 by rw [HV.out]] at hdv
          go_roundg (gk - 1)
          case rel => exact ⟨j + 1, _, by rfl, by omega, by omega, by simpa using hrl, by simpa using hd, by rw [List.map_append, List.map_cons, List.map_append, List.map_cons, ← List.cons_append, ← List.append_assoc, List.getElem?_append_right (by simpa using Nat.le_of_eq hab)]; simp at hab ⊢; simp [← hab], z5, hL9, hdv, kk, hs⟩
          case measure => omega
        · obtain rfl : W = j := by omega
          have HX := hide hj
          refine wp_seq_k ?_
          intro K19 hK19
          refine wp_seq_k ?_
          intro K20 hK20
          refine rg [0, 1, 2, 3] ?_
          refine sq ?_
          refine .mv ?_
          refine sq ?_
          refine .mv ?_
          refine sq ?_
          refine .r0 ?_
          refine sq ?_
          refine .r0 ?_
          apply wpSq_end
          refine hK20 _ _ ?_
          refine cf ?_
          refine wp_exit ?_
          refine hK16 _ _ ?_
          refine rg [0, 1] ?_
          refine sq ?_
          refine .r0 ?_
          refine sq ?_
          refine .mv ?_
          apply wpSq_end
          refine HO2 _ _ ?_
          go_roundg (g2 - 1)
          case rel => exact ⟨q + 1, rs, by rfl, by omega, hrl, by rw [show k + 1 + (q + 1) = k + 1 + q + 1 from rfl, ← Elm_row]; exact hd, z5, hL9, hdv, kk, hs⟩
          case measure => omega
      · have hqe : k + 1 + q = n := by omega
        have HX := hide hq
        have HE := hide hqe
        clear hqe
        refine wp_seq_k ?_
        intro K14 hK14
        refine rg [0] ?_
        refine sq ?_
        refine .r0 ?_
        apply wpSq_end
        refine hK14 _ _ ?_
        refine wp_seq_k ?_
        intro K15 hK15
        refine cf ?_
        refine wp_exit ?_
        refine hK12 _ _ ?_
        refine rg [0, 1, 2, 3, 4] ?_
        refine sq ?_
        refine .mv ?_
        refine sq ?_
        refine .r2 hs.g3.f2 ?_
        refine sq ?_
        refine .al hs ?_; clear hs; intro p_b2 w_7 hs n7 kb_b2
        refine sq ?_
        have k0_1 := kb n7
        replace hL9 := hL9.k k0_1
        replace z5 := z5.k k0_1
        replace hL9 := hL9.snoc z5
        refine .ap 3 hs hs.g0 ?_; clear hs; intro o_L_8 c_L_8 w_8 hs kp8 hw8; simp only [List.set_cons_succ, List.set_cons_zero] at hs
        refine sq ?_
        refine .mv ?_
        apply wpSq_end
        refine hK7 _ _ ?_
        refine rg [0, 1, 2] ?_
        refine sq ?_
        refine .mv ?_
        refine sq ?_
        refine .r0 ?_
        refine sq ?_
        refine .mv ?_
        apply wpSq_end
        have k0_2 := k0_1.t kp8
        replace hd := hd.k k0_2
        have k1_2 := kp8
        replace hL9 := hL9.k k1_2
        replace kk := kk.k k0_2
        refine HO _ _ ?_
        have hs := hs.sub (show List.Sublist (ls w0.heap.size 28 1 (.slice o n c) n (rs.map (·.v)) :: bx pt #[.slice o n c] 30 :: _ :: (bs ++ rs.map (Rw.e w0.heap.size))) _ from .cons _ (.cons_cons _ (.cons_cons _ (.cons_cons _ (.cons _ (List.Sublist.append_right (List.sublist_append_right ds3 bs) _))))))
        go_roundg (g1 - 1)
        case rel => exact ⟨k + 1, Elm k A F n (k + 1), rs, f3, caps3, _, _, _, by rfl, rfl, by rfl, by omega, hide (fun h => absurd h (by omega)), HQ2, hide Elm_end, hrl, by rw [← HE.out] at hd ⊢; exact hd, by rw [pvz_succ, ← Dt.D_diag, ← HPE.out]; exact hL9, kk, hs⟩
        case measure => omega
  · have HFin := hide hFin
    refine ct ?_
    refine wp_exit ?_
    refine hK5 _ _ ?_
    refine wp_seq_k ?_
    intro K11 hK11
    refine rg [0, 1] ?_
    refine sq ?_
    refine .mv ?_
    refine sq ?_
    refine .mv ?_
    apply wpSq_end
    refine hK11 _ _ ?_
    refine wp_ret ?_
    refine hSr _ _ _ ?_
    have k1_3 := (kb n3).o hd4 ho4
    replace hd2 := hd2.k k1_3
    have k0_3 := (kp2.b n3).o hd4 ho4
    replace hL9 := hL9.k k0_3
    replace kk := kk.k k0_3
    try dsimp only [Exit.then, Exit.inBlock]
    refine bodyPost_ret (v := (.slice o9 k c9)) (by simp [results, Tryz.results29, go_sem]) rfl ?_
    exact ⟨_, _, xs, k, _, rs, rfl, by omega, HFin.out, HQ.out, hL9, hrl, hd2, (hs.sub (.cons _ (List.Sublist.refl _))).perm ((List.Perm.cons _ (List.Perm.swap _ _ _)).trans (List.Perm.swap _ _ _)), kk.kp⟩
end
section
variable {w w0 : World} {pt n c L : Nat} {o : Option Addr} {A : Nat → Nat → Int × Int}
set_option maxHeartbeats 4000000 in
set_option maxRecDepth 20000 in
theorem pivZ_minors (kb_bt : Hid (w0.heap.size ≤ pt)) (hn : n ≤ 1000) (hB : ∀ m, ∀ i, i < n → ∀ j, j < n → zl L (Dt.D m A i j)) (hL : L ≤ 3300000) (hre : ∀ k, (Dt.det k A).2 = 0) :
    PivZ w0 30 #[] #[.pointer (some ⟨pt, 0, none⟩)] o n c pt n A (fun r => r = n ∨ Dt.det (r + 1) A = 0) := by
  intro k w F rs bs hkn hA hQ hl hd hst
  show Calls _ _ #[.int .i64 (k : Int), .pointer (some ⟨pt, 0, none⟩)] w _
  have kk := KpF.r w
  by_cases hk : k < n
  · have HK := hide hk
    have hFD := hA k hk k hk (Nat.le_refl _) (Nat.le_refl _)
    have t1 : ((k : Int) == (n : Int)) = false := beq_eq_false_iff_ne.2 (by omega)
    obtain ⟨r1, gr, cr, ys, r2, er, hr1, hrv, hx, hst⟩ := hst.row (bs := bx pt #[.slice o n c] 30 :: bs) hd (p := k) (K := n) (by rw [len_mkM]; exact hk) (by rw [mkM_row hk]; simp) (by omega)
    have ER := hide er
    clear er
    have LO : Lst w w0.heap.size 28 1 (.slice o n c) n _ := hst.1.2.1.1
    obtain ⟨gO, curO, rfl, xO, hcO⟩ := LO.box (by omega)
    have eO := hcO _ _ hrv
    have LR : Lst w w0.heap.size 26 4 (.slice (some ⟨gr, 0, none⟩) n cr) n ys := hst.1.1.1
    obtain ⟨gr', curR, eR, xR, hcR⟩ := LR.box (by omega)
    simp only [Option.some.injEq, Addr.mk.injEq, and_true] at eR
    obtain rfl : gr = gr' := eR
    rw [mkM_row hk] at hx
    obtain ⟨a1, a2, a3, a4, a5, a6, a7, a8, ee1, ee2, ee3, ee4, x1, x2⟩ := hx.els k (by simpa using hk)
    rw [show ((List.range n).map (F k))[k]'(by simpa using hk) = Dt.D k A k k by simp [hFD]] at x1 x2
    replace ee1 := hcR _ _ ee1
    replace ee2 := hcR _ _ ee2
    replace ee3 := hcR _ _ ee3
    replace ee4 := hcR _ _ ee4
    have LB := hide (hB k k hk k hk)
    have HIM := hide (show Dt.D k A k k = ((Dt.det (k + 1) A).1, 0) by rw [Dt.D_diag]; exact Prod.ext rfl (hre _))
    rw [HIM.out] at x1 x2
    have HL5 := hide (show L ≤ 100000000 by omega)
    obtain ⟨P, hP⟩ : ∃ P, (Dt.det (k + 1) A).1 = P := ⟨_, rfl⟩
    have HP := hide hP
    have LP := hide (show (dig P.natAbs).length ≤ L by rw [← hP, ← Dt.D_diag]; exact LB.out.1)
    have L0 := hide (show (dig (0 : Int).natAbs).length ≤ L from Nat.le_trans (Nat.le_of_eq (by decide)) (Nat.zero_le _))
    have HQ := hide hQ
    rw [hP] at x1
    clear LO hcO LR hcR hx hP hrv hB hre hA hFD hQ
    by_cases h0 : P = 0
    · have HD := hide (show decide (P = 0 ∧ (0 : Int) = 0) = true by simp [h0])
      have H0 := hide (show Dt.det (k + 1) A = 0 from by
        have := HIM.out
        rw [Dt.D_diag, HP.out, h0] at this; exact this)
      clear h0
      go_enter Tryz.func30, Tryz.ntmps30
      have hs := hst
      clear hst
      have lt_kO := xO.lt
      have xOz := xO
      have lt_kRK := xR.lt
      have xRz := xR
      refine wp_seq_k ?_
      intro K1 hK1
      refine rg [0, 1] ?_
      refine sq ?_
      refine .al hs ?_; clear hs; intro p_b1 w_1 hs n1 kb_b1
      replace xO := xO.bl n1; replace xR := xR.bl n1
      refine sq ?_
      refine .mv ?_
      apply wpSq_end
      refine hK1 _ _ ?_
      refine wp_seq_k ?_
      intro K2 hK2
      refine wp_seq_k ?_
      intro K3 hK3
      refine rg [0, 1, 2, 3, 4, 5, 6, 7, 8, 9, 10, 11, 12, 13] ?_
      refine sq ?_
      refine .mv ?_
      refine sq ?_
      refine .r1 hs.g3.f1 ?_
      refine sq ?_
      refine .r0 ?_
      refine sq ?_
      refine .r0 ?_
      refine sq ?_
      refine .mv ?_
      refine sq ?_
      refine .r1 hs.g3.f1 ?_
      refine sq ?_
      refine .mv ?_
      refine sq ?_
      refine .r0 ?_
      refine sq ?_
      refine .r1 (xO.cell _ eO) ?_
      refine sq ?_
      refine .mv ?_
      refine sq ?_
      refine .r0 ?_
      refine sq ?_
      refine .r4 ⟨xR.cell _ ee1, xR.cell _ ee2, xR.cell _ ee3, xR.cell _ ee4⟩ ?_
      refine sq ?_
      intro K hK
      have k0_1 := kb n1
      replace x1 := x1.k k0_1
      replace x2 := x2.k k0_1
      go_big_op
      go_fit (isZero_any (.mk' (x1.zn LP.out) (x2.zn L0.out)) HL5.out HL5.out)
      rintro e w_2 ⟨rfl, hb_2⟩
      replace xO := xO.bl hb_2; replace xR := xR.bl hb_2; replace hs := hs.bl hb_2
      rw [HD.out]
      refine hK _ _ rfl trivial ?_
      clear hK K
      refine sq ?_
      refine .r0 ?_
      apply wpSq_end
      refine hK3 _ _ ?_
      refine ct ?_
      refine wp_seq_k ?_
      intro K4 hK4
      refine rg [0, 1, 2] ?_
      refine sq ?_
      refine .r0 ?_
      refine sq ?_
      refine .s2 hs.g0 (fun _ => hs.u0 kb_b1) ?_; clear hs; intro w_3 hs hd3 ho3
      replace xO := xO.frame ho3 (hs.ne 2 0); replace xR := xR.frame ho3 (hs.ne 1 0)
      refine sq ?_
      refine .mv ?_
      apply wpSq_end
      refine hK4 _ _ ?_
      refine wp_ret ?_
      have k0_3 := (k0_1.b hb_2).o hd3 ho3
      replace hd := hd.k k0_3
      replace kk := kk.k k0_3
      have e9 := ER.out
      subst e9
      try dsimp only [Exit.then, Exit.inBlock]
      obtain ⟨r0_0, r0_1⟩ := hs.g0.f2
      refine bodyPost_ret (v := (.tuple #[(.agg #[.bool false, .slice none 0 0]), (.bool false)])) (by simp [results, Tryz.results30, go_sem, r0_0, r0_1]) rfl ?_
      exact ⟨_, false, 0, rfl, zc_zero _, .inr ⟨rfl, .inr H0.out⟩, hd, (hs.sub (.cons _ (List.Sublist.refl _))).unrow (bs := bx pt #[.slice (some ⟨gO, 0, none⟩) n c] 30 :: bs), kk.kp⟩
    · have HD := hide (show decide (P = 0 ∧ (0 : Int) = 0) = false by simp [h0])
      have H0 := hide h0
      have HPE := hide (show (P, 0) = Dt.D k A k k by rw [HIM.out, HP.out])
      clear h0
      go_enter Tryz.func30, Tryz.ntmps30
      have hs := hst
      clear hst
      have lt_kO := xO.lt
      have xOz := xO
      have lt_kRK := xR.lt
      have xRz := xR
      refine wp_seq_k ?_
      intro K1 hK1
      refine rg [0, 1] ?_
      refine sq ?_
      refine .al hs ?_; clear hs; intro p_b1 w_1 hs n1 kb_b1
      replace xO := xO.bl n1; replace xR := xR.bl n1
      refine sq ?_
      refine .mv ?_
      apply wpSq_end
      refine hK1 _ _ ?_
      refine wp_seq_k ?_
      intro K2 hK2
      refine wp_seq_k ?_
      intro K3 hK3
      refine rg [0, 1, 2, 3, 4, 5, 6, 7, 8, 9, 10, 11, 12, 13] ?_
      refine sq ?_
      refine .mv ?_
      refine sq ?_
      refine .r1 hs.g3.f1 ?_
      refine sq ?_
      refine .r0 ?_
      refine sq ?_
      refine .r0 ?_
      refine sq ?_
      refine .mv ?_
      refine sq ?_
      refine .r1 hs.g3.f1 ?_
      refine sq ?_
      refine .mv ?_
      refine sq ?_
      refine .r0 ?_
      refine sq ?_
      refine .r1 (xO.cell _ eO) ?_
      refine sq ?_
      refine .mv ?_
      refine sq ?_
      refine .r0 ?_
      refine sq ?_
      refine .r4 ⟨xR.cell _ ee1, xR.cell _ ee2, xR.cell _ ee3, xR.cell _ ee4⟩ ?_
      refine sq ?_
      intro K hK
      have k0_1 := kb n1
      replace x1 := x1.k k0_1
      replace x2 := x2.k k0_1
      go_big_op
      go_fit (isZero_any (.mk' (x1.zn LP.out) (x2.zn L0.out)) HL5.out HL5.out)
      rintro e w_2 ⟨rfl, hb_2⟩
      replace xO := xO.bl hb_2; replace xR := xR.bl hb_2; replace hs := hs.bl hb_2
      rw [HD.out]
      refine hK _ _ rfl trivial ?_
      clear hK K
      refine sq ?_
      refine .r0 ?_
      apply wpSq_end
      refine hK3 _ _ ?_
      refine cf ?_
      refine wp_skip ?_
      refine hK2 _ _ ?_
      refine wp_seq_k ?_
      intro K4 hK4
      refine rg [0, 1, 2, 3, 4, 5, 6, 7, 8, 9] ?_
      refine sq ?_
      refine .r1 hs.g3.f1 ?_
      refine sq ?_
      refine .mv ?_
      refine sq ?_
      refine .r0 ?_
      refine sq ?_
      refine .r1 (xO.cell _ eO) ?_
      refine sq ?_
      refine .mv ?_
      refine sq ?_
      refine .r0 ?_
      refine sq ?_
      refine .r0 ?_
      refine sq ?_
      refine .r2 ⟨xR.cell _ ee1, xR.cell _ ee2⟩ ?_
      refine sq ?_
      refine .s2 hs.g0 (fun _ => hs.u0 kb_b1) ?_; clear hs; intro w_3 hs hd3 ho3
      replace xO := xO.frame ho3 (hs.ne 2 0); replace xR := xR.frame ho3 (hs.ne 1 0)
      refine sq ?_
      refine .mv ?_
      apply wpSq_end
      refine hK4 _ _ ?_
      refine wp_ret ?_
      have k0_3 := (k0_1.b hb_2).o hd3 ho3
      replace hd := hd.k k0_3
      replace kk := kk.k k0_3
      have k1_3 := (kb hb_2).o hd3 ho3
      replace x1 := x1.k k1_3
      have e9 := ER.out
      subst e9
      try dsimp only [Exit.then, Exit.inBlock]
      obtain ⟨r0_0, r0_1⟩ := hs.g0.f2
      refine bodyPost_ret (v := (.tuple #[(.agg #[.bool a1, .slice a2 a3 a4]), (.bool true)])) (by simp [results, Tryz.results30, go_sem, r0_0, r0_1]) rfl ?_
      exact ⟨_, true, P, rfl, x1, .inl ⟨rfl, HK.out, HK.out, HPE.out, H0.out⟩, hd, (hs.sub (.cons _ (List.Sublist.refl _))).unrow (bs := bx pt #[.slice (some ⟨gO, 0, none⟩) n c] 30 :: bs), kk.kp⟩
  · obtain rfl : k = n := by omega
    have t1 : ((k : Int) == (k : Int)) = true := by simp
    clear hA hQ hB hre
    go_enter Tryz.func30, Tryz.ntmps30
    have hs := hst
    clear hst
    refine wp_seq_k ?_
    intro K1 hK1
    refine rg [0, 1] ?_
    refine sq ?_
    refine .al hs ?_; clear hs; intro p_b1 w_1 hs n1 kb_b1
    refine sq ?_
    refine .mv ?_
    apply wpSq_end
    refine hK1 _ _ ?_
    refine wp_seq_k ?_
    intro K2 hK2
    refine wp_seq_k ?_
    intro K3 hK3
    refine rg [0, 1, 2, 3, 4, 5, 6, 7, 8, 9, 10, 11, 12, 13] ?_
    refine sq ?_
    refine .mv ?_
    refine sq ?_
    refine .r1 hs.g2.f1 ?_
    refine sq ?_
    refine .r0 ?_
    refine sq ?_
    refine .r0 ?_
    refine sq ?_
    refine .mv ?_
    refine sk ?_
    refine sk ?_
    refine sk ?_
    refine sk ?_
    refine sk ?_
    refine sk ?_
    refine sk ?_
    refine sk ?_
    refine sq ?_
    refine .r0 ?_
    apply wpSq_end
    refine hK3 _ _ ?_
    refine ct ?_
    refine wp_seq_k ?_
    intro K4 hK4
    refine rg [0, 1, 2] ?_
    refine sq ?_
    refine .r0 ?_
    refine sq ?_
    refine .s2 hs.g0 (fun _ => hs.u0 kb_b1) ?_; clear hs; intro w_2 hs hd2 ho2
    refine sq ?_
    refine .mv ?_
    apply wpSq_end
    refine hK4 _ _ ?_
    refine wp_ret ?_
    have k0_2 := (kb n1).o hd2 ho2
    replace hd := hd.k k0_2
    replace kk := kk.k k0_2
    try dsimp only [Exit.then, Exit.inBlock]
    obtain ⟨r0_0, r0_1⟩ := hs.g0.f2
    refine bodyPost_ret (v := (.tuple #[(.agg #[.bool false, .slice none 0 0]), (.bool false)])) (by simp [results, Tryz.results30, go_sem, r0_0, r0_1]) rfl ?_
    exact ⟨_, false, 0, rfl, zc_zero _, .inr ⟨rfl, .inl trivial⟩, hd, hs.sub (.cons _ (List.Sublist.refl _)), kk.kp⟩
set_option maxRecDepth 20000 in
theorem entP_minors : EntP 30 #[] #[.pointer (some ⟨pt, 0, none⟩)] := fun _ _ => by kernel_rfl
end
theorem ZL.app' {w : World} {ys : List Value} {ts : List Int} (h2 : ZL w ys ts) : ∀ {xs : List Value} {zs : List Int}, ZL w xs zs → ZL w (xs ++ ys) (zs ++ ts)
  | [], [], _ => h2
  | _ :: _ :: _, _ :: _, h => ⟨h.1, ZL.app' h2 h.2⟩
  | [], _ :: _, h => h.elim
  | [_], [], h => h.elim
  | [_], _ :: _, h => h.elim
  | _ :: _ :: _, [], h => h.elim
theorem ZL.app {w : World} {xs ys : List Value} {zs ts : List Int} (h : ZL w xs zs) (h2 : ZL w ys ts) : ZL w (xs ++ ys) (zs ++ ts) := ZL.app' h2 h
theorem ZL.one {w : World} : ∀ {xs : List Value} {zs : List Int}, ZL w xs zs → ∀ u ∈ xs, u.oneCell' = true
  | [], [], _, u, hu => by cases hu
  | _ :: _ :: _, _ :: _, h, u, hu => by
    obtain ⟨n, o, k, c, e⟩ := h.1.open2
    simp only [Value.agg.injEq, Array.mk.injEq, List.cons.injEq, and_true] at e
    obtain ⟨rfl, rfl⟩ := e
    rcases List.mem_cons.1 hu with rfl | hu
    · rfl
    · rcases List.mem_cons.1 hu with rfl | hu
      · rfl
      · exact ZL.one h.2 u hu
  | [], _ :: _, h, _, _ => h.elim
  | [_], [], h, _, _ => h.elim
  | [_], _ :: _, h, _, _ => h.elim
  | _ :: _ :: _, [], h, _, _ => h.elim
theorem zs_succ (m : Nat) : zs_ #[.bool false, .slice none 0 0] (m + 1) = Value.bool false :: .slice none 0 0 :: zs_ #[.bool false, .slice none 0 0] m := by
  have key : ∀ k, zs_ #[.bool false, .slice none 0 0] k = (List.range (k * 2)).map fun j => if j % 2 = 0 then Value.bool false else .slice none 0 0 := fun k => by
    unfold zs_ Builtin.zeroCells
    rw [Array.toList_map, Array.toList_range]
    refine List.map_congr_left fun j hj => ?_
    show (#[Value.bool false, .slice none 0 0] : Array Value)[j % 2]! = _
    rcases Nat.mod_two_eq_zero_or_one j with h | h <;> rw [h] <;> rfl
  rw [key, key, Nat.add_mul, Nat.add_comm, show 1 * 2 + m * 2 = m * 2 + 1 + 1 by omega, List.range_succ_eq_map, List.range_succ_eq_map]
  simp only [List.map_cons, List.map_map]
  show Value.bool false :: Value.slice none 0 0 :: List.map _ _ = _
  refine congrArg (List.cons _) (congrArg (List.cons _) (List.map_congr_left fun j _ => ?_))
  simp only [Function.comp, Nat.succ_eq_add_one]
  by_cases h : j % 2 = 0
  · rw [if_pos h, if_pos (by omega)]
  · rw [if_neg h, if_neg (by omega)]
theorem ZL.zeros (w : World) : ∀ m, ZL w (zs_ #[.bool false, .slice none 0 0] m) (List.replicate m 0)
  | 0 => by rw [show zs_ #[.bool false, .slice none 0 0] 0 = [] by simp [zs_, Builtin.zeroCells]]; trivial
  | m + 1 => by rw [zs_succ, List.replicate_succ]; exact ⟨zc_zero w, ZL.zeros w m⟩
section
variable {n W T : Nat} {M : Nat → Nat → Int × Int} {b : Nat → Nat}
theorem MinB.D {L : Nat} {A : Nat → Nat → Int × Int} (hB : MinB n W L A) : ∀ m, ∀ i, i < n → ∀ j, j < W → zl L (Dt.D m A i j) := by
  intro m i hi j hj
  by_cases h1 : i < m
  · rw [Dt.D_row0 h1]; exact zl_0 _
  · by_cases h2 : j < m
    · rw [Dt.D_col0 h2]; exact zl_0 _
    · exact hB (m + 1) (Dt.bord m i) (Dt.bord m j) (fun r hr => ⟨by unfold Dt.bord; split <;> omega, by unfold Dt.bord; split <;> omega⟩) fun r q h3 h4 h5 => by
        unfold Dt.bord at h5
        split at h5 <;> split at h5 <;> omega
end
section
variable {P : Program} {l : List Oper} {md : Region.Mode} {C : World → Prop}
/-- Either of two operations comes first, then the other, then the rest. -/
def twoOK (md : Region.Mode) (ops : Array Oper) (listed : Array Bool) (j k : Nat) (rest : List Nat) : Bool :=
  (Region.ready md ops listed == [j, k]) && plan2OK md ops (listed.setIfInBounds j true) (k :: rest) && plan2OK md ops (listed.setIfInBounds k true) (j :: rest)
def wpTwo (P : Program) (l : List Oper) (Gs : List (World → Prop)) (bad : List (Nat × Nat)) (Q : Act → World → Prop) (j k : Nat) (rest : List Nat) (a : Act) (w : World) : Prop :=
  wpTail P l Gs bad Q (j :: k :: rest) a w ∧ wpTail P l Gs bad Q (k :: j :: rest) a w
theorem cOp_of_tail {Gs : List (World → Prop)} {bad : List (Nat × Nat)} {Q : Act → World → Prop} {i : Nat} {rest : List Nat} {listed : Array Bool} {a : Act} {w : World}
    (hp : plan2OK md l.toArray (listed.setIfInBounds i true) rest = true) (h : wpTail P l Gs bad Q (i :: rest) a w) : cOp P l.toArray (fun w' => Keeps Gs bad i w w') i (wpAnyX P md l.toArray Gs bad Q rest.length (listed.setIfInBounds i true)) a w := by
  obtain ⟨o, h0, h1⟩ := h
  unfold cOp
  rw [show l.toArray[i]? = some o by rw [← nthO_eq] at h0; simpa using h0]
  simp only
  split
  · rename_i hw
    simp only [hw, if_true] at h1
    exact h1.mono fun v w' ⟨c1, c2⟩ => ⟨c1, wpAnyX_of_tail rest _ _ _ hp c2⟩
  · rename_i hw
    simp only [hw] at h1
    exact wpAnyX_of_tail rest _ _ _ hp h1
theorem wpAnyX_of_two {Gs : List (World → Prop)} {bad : List (Nat × Nat)} {Q : Act → World → Prop} {j k : Nat} {rest : List Nat} {listed : Array Bool} {a : Act} {w : World}
    (hp : twoOK md l.toArray listed j k rest = true) (h : wpTwo P l Gs bad Q j k rest a w) : wpAnyX P md l.toArray Gs bad Q (rest.length + 2) listed a w := by
  simp only [twoOK, Bool.and_eq_true, beq_iff_eq] at hp
  obtain ⟨⟨h1, h2⟩, h3⟩ := hp
  refine ⟨fun h4 => (by rw [h4] at h1; cases h1), fun i hi => ?_⟩
  rw [h1] at hi
  rcases List.mem_cons.1 hi with rfl | hi
  · exact cOp_of_tail (rest := k :: rest) h2 h.1
  · obtain rfl : i = k := by simpa using hi
    exact cOp_of_tail (rest := j :: rest) h3 h.2
def flOKT (md : Region.Mode) (l : List Oper) (j2 k2 : Nat) (r2 : List Nat) : Nat → Array Bool → List (Nat × Bool) → List Nat → Bool
  | 0, listed, plan, F => plan.isEmpty && F.isEmpty && twoOK md l.toArray listed j2 k2 r2
  | n + 1, listed, [], F => !(Region.ready md l.toArray listed).isEmpty && (Region.ready md l.toArray listed).all (F.contains ·) && F.all fun j => !(Region.ready md l.toArray listed).contains j || flOKT md l j2 k2 r2 n (listed.setIfInBounds j true) [] (F.erase j)
  | n + 1, listed, (i, false) :: rest, F => Region.free md l.toArray listed i && (Region.ready md l.toArray listed).contains i && flOKT md l j2 k2 r2 n (listed.setIfInBounds i true) rest F
  | n + 1, listed, (k, true) :: rest, F => !(Region.ready md l.toArray listed).isEmpty && (Region.ready md l.toArray listed).all (fun i => i == k || F.contains i) && flOKT md l j2 k2 r2 n (listed.setIfInBounds k true) rest F &&
      F.all fun j => !(Region.ready md l.toArray listed).contains j || flOKT md l j2 k2 r2 n (listed.setIfInBounds j true) ((k, true) :: rest) (F.erase j)
theorem wpAnyC_of_flT {Gs : List (World → Prop)} {CL : List Nat} {bad : List (Nat × Nat)} {Q : Act → World → Prop} {ob : Nat → Obj} {F0 : List Nat} {B : Nat} {j2 k2 : Nat} {r2 : List Nat} (hns : Region.noSelect l.toArray = true) (hsu : sundry l F0 = true)
    (hl : ∀ j ∈ F0, Lays P l ob j) (hCa : ∀ w o, C w → C (w.alloc o)) (hCG : ∀ w, C w → ∀ G ∈ Gs, G w) (_hF : ∀ j ∈ F0, ∀ g, bad.contains (j, g) = false) :
    ∀ (n : Nat) (plan : List (Nat × Bool)) (F : List Nat) (listed : Array Bool) (pt : Nat → Option Nat) (a : Act) (w w' : World), flOKT md l j2 k2 r2 n listed plan F = true → planApart l F0 plan = true → waits md l CL bad plan = true → (∀ k ∈ plan, ∀ g, bad.contains (k.1, g) = false) → F.Nodup →
      (∀ j ∈ F, j ∈ F0) → (∀ j ∈ F0, pt j = none ↔ j ∈ F) → (∀ j ∈ F0, ∀ p, pt j = some p → B ≤ p ∧ p < w'.heap.size ∧ w'.heap[p]? = some (ob j)) → (∀ i ∈ F0, ∀ j ∈ F0, ∀ p, pt i = some p → pt j = some p → i = j) →
      B ≤ w'.heap.size → Below w.heap.size w w' → C w' → wpFl P l C Gs CL ob F0 B (wpTwo P l Gs bad Q j2 k2 r2) plan a w → wpAnyX P md l.toArray Gs bad Q (n + (r2.length + 2)) listed (putF l pt F0 a) w' := by
  have hsel := fun (j : Nat) (o : Oper) cs b (h : nthO l j = some o) => Region.noSelect_spec hns j o cs b (by rw [← nthO_eq] at h; simpa using h)
  -- a block is laid
  have hfl : ∀ (n : Nat) (plan : List (Nat × Bool)) (F : List Nat) (listed : Array Bool) (pt : Nat → Option Nat) (a : Act) (w w' : World),
      (∀ (F : List Nat) (listed : Array Bool) (pt : Nat → Option Nat) (w' : World), flOKT md l j2 k2 r2 n listed plan F = true → F.Nodup →
        (∀ j ∈ F, j ∈ F0) → (∀ j ∈ F0, pt j = none ↔ j ∈ F) → (∀ j ∈ F0, ∀ p, pt j = some p → B ≤ p ∧ p < w'.heap.size ∧ w'.heap[p]? = some (ob j)) → (∀ i ∈ F0, ∀ j ∈ F0, ∀ p, pt i = some p → pt j = some p → i = j) →
        B ≤ w'.heap.size → Below w.heap.size w w' → C w' → wpAnyX P md l.toArray Gs bad Q (n + (r2.length + 2)) listed (putF l pt F0 a) w') →
      ∀ j ∈ F, flOKT md l j2 k2 r2 n (listed.setIfInBounds j true) plan (F.erase j) = true → F.Nodup →
      (∀ j ∈ F, j ∈ F0) → (∀ j ∈ F0, pt j = none ↔ j ∈ F) → (∀ j ∈ F0, ∀ p, pt j = some p → B ≤ p ∧ p < w'.heap.size ∧ w'.heap[p]? = some (ob j)) → (∀ i ∈ F0, ∀ j ∈ F0, ∀ p, pt i = some p → pt j = some p → i = j) →
      B ≤ w'.heap.size → Below w.heap.size w w' → C w' → cOp P l.toArray (fun w2 => Keeps Gs bad j w' w2) j (wpAnyX P md l.toArray Gs bad Q (n + (r2.length + 2)) (listed.setIfInBounds j true)) (putF l pt F0 a) w' := by
    intro n plan F listed pt a w w' ih j hj hok hnd hF' hnone hpt hinj hB hb hC
    obtain ⟨o, ho, hg, hrun⟩ := hl j (hF' j hj)
    unfold cOp
    rw [show l.toArray[j]? = some o by rw [← nthO_eq] at ho; simpa using ho]
    have hw : Region.wanted o (yielded l.toArray (putF l pt F0 a).tmps) = true := by unfold Region.wanted; rw [hg]
    simp only [hw, if_true]
    unfold Calm
    rw [hrun]
    refine ⟨fun g _ _ => nthG_all (hCG _ (hCa _ _ hC)) g, ?_⟩
    rw [putF_set ho ((hnone j (hF' j hj)).2 hj) (hF' j hj) hsu]
    have hsz : (w'.alloc (ob j)).heap.size = w'.heap.size + 1 := by simp
    have hold : ∀ p, p < w'.heap.size → (w'.alloc (ob j)).heap[p]? = w'.heap[p]? := fun p hp => Below.heap_alloc _ _ _ hp
    have hnew : (w'.alloc (ob j)).heap[w'.heap.size]? = some (ob j) := by
      show (w'.heap.push _)[w'.heap.size]? = _
      simp
    refine ih (F.erase j) _ _ _ hok (hnd.erase _) (fun i hi => hF' i (List.mem_of_mem_erase hi)) ?_ ?_ ?_ (by omega) (hb.alloc hb.size _) (hCa _ _ hC)
    · intro i hi
      unfold setP
      split
      · rename_i e; subst e; simp [hnd.mem_erase_iff]
      · rename_i e; rw [hnone i hi, hnd.mem_erase_iff]; simp [e]
    · intro i hi p hp
      unfold setP at hp
      split at hp
      · rename_i e
        subst e
        obtain rfl : w'.heap.size = p := by simpa using hp
        exact ⟨hB, by omega, hnew⟩
      · obtain ⟨h1, h2, h3⟩ := hpt i hi p hp
        exact ⟨h1, by omega, by rw [hold p h2]; exact h3⟩
    · intro i hi k hk p hp hq
      unfold setP at hp hq
      split at hp <;> split at hq
      · rename_i e1 e2; rw [e1, e2]
      · have h1 : w'.heap.size = p := by simpa using hp
        have h2 := (hpt k hk p hq).2.1
        omega
      · have h1 : w'.heap.size = p := by simpa using hq
        have h2 := (hpt i hi p hp).2.1
        omega
      · exact hinj i hi k hk p hp hq
  intro n
  induction n with
  | zero =>
    intro plan F listed pt a w w' hok hpa hwt hnb hnd hF' hnone hpt hinj hB hb hC h
    simp only [flOKT, Bool.and_eq_true, List.isEmpty_iff] at hok
    obtain ⟨⟨rfl, rfl⟩, hp2⟩ := hok
    have hall : ∀ j ∈ F0, ∃ p, pt j = some p := fun j hj => by
      cases hp : pt j with
      | none => exact absurd ((hnone j hj).1 hp) (by simp)
      | some p => exact ⟨p, rfl⟩
    have hget : ∀ j ∈ F0, pt j = some ((pt j).getD 0) := fun j hj => by obtain ⟨p, hp⟩ := hall j hj; rw [hp]; rfl
    have h2 := h w' (fun j => (pt j).getD 0) hb hC (fun j hj => by
      obtain ⟨p, hp⟩ := hall j hj
      have := hpt j hj p hp
      rw [hp]
      exact ⟨this.1, this.2.2⟩) (fun i hi j hj hne he => hne (by
      obtain ⟨p, hp⟩ := hall i hi
      obtain ⟨q, hq⟩ := hall j hj
      rw [hp, hq] at he
      obtain rfl : p = q := by simpa using he
      exact hinj i hi j hj p hp hq))
    rw [putF_congr (pt' := fun j => some ((pt j).getD 0)) hget, Nat.zero_add]
    exact wpAnyX_of_two hp2 h2
  | succ n ih =>
    intro plan F listed pt a w w' hok hpa hwt hnb hnd hF' hnone hpt hinj hB hb hC h
    rw [show n + 1 + (r2.length + 2) = (n + (r2.length + 2)) + 1 by omega]
    match plan, hok, hpa, hwt, hnb, h with
    | [], hok, hpa, hwt, hnb, h =>
      simp only [flOKT, Bool.and_eq_true, List.all_eq_true, Bool.or_eq_true, Bool.not_eq_true', List.contains_eq_mem, decide_eq_true_eq, decide_eq_false_iff_not] at hok
      obtain ⟨⟨hne, hin⟩, hall⟩ := hok
      refine ⟨fun h0 => (by rw [h0] at hne; simp at hne), fun j hj => ?_⟩
      refine hfl n [] F listed pt a w w' (fun F' listed' pt' w2 h1 h2 h3 h4 h5 h6 h7 h8 h9 => ih [] F' listed' pt' a w w2 h1 hpa hwt hnb h2 h3 h4 h5 h6 h7 h8 h9 h) j (hin j hj) ?_ hnd hF' hnone hpt hinj hB hb hC
      rcases hall j (hin j hj) with h1 | h1
      · exact absurd hj h1
      · exact h1
    | (i, false) :: rest, hok, hpa, hwt, hnb, h =>
      simp only [flOKT, Bool.and_eq_true, List.contains_eq_mem, decide_eq_true_eq] at hok
      obtain ⟨⟨hfr, hrd⟩, hok⟩ := hok
      obtain ⟨o, v, ho, hst, h1⟩ := h
      simp only [planApart, List.all_cons, Bool.and_eq_true] at hpa
      rw [ho] at hpa
      have ho' : l.toArray[i]? = some o := by have := ho; rw [← nthO_eq] at this; simpa using this
      rw [waits, List.all_cons, Bool.and_eq_true] at hwt
      obtain ⟨hwt1, hwt⟩ := hwt
      have hgo := fun h1 => ih rest F (listed.setIfInBounds i true) pt (a.put o.dst v) w w' hok hpa.2 hwt (fun k hk => hnb k (List.mem_cons_of_mem _ hk)) hnd hF' hnone hpt hinj hB hb hC h1
      rw [putF_put hpa.1] at hgo
      have hst' := hst.of_same (a' := putF l pt F0 a) (putF_exec (fun cs b => hsel i o cs b ho) hpa.1) (putF_wanted hpa.1)
      refine wpAnyX_first ho' (Region.noSelect_spec hns) (fun k ok hok hne => ?_) _ _ _ _ (nthG_all (hCG _ hC) _) (Region.free_spec ho' hfr) hrd hst' (hgo h1)
      cases hk : bad.contains (k, CL.getD i 99) with
      | false => rfl
      | true =>
        exfalso
        simp only [Bool.false_or] at hwt1
        have h5 := List.all_eq_true.1 hwt1 (k, CL.getD i 99) (by simpa using hk)
        simp only [bne_self_eq_false, Bool.false_or] at h5
        rw [show nthO l k = some ok by rw [← nthO_eq]; simpa using hok] at h5
        obtain ⟨e, he, h6⟩ := Array.any_eq_true'.1 h5
        simp only [Bool.and_eq_true, beq_iff_eq] at h6
        exact hne e he h6.1 h6.2
    | (k, true) :: rest, hok, hpa, hwt, hnb, h =>
      have hpa0 := hpa
      have hwt0 := hwt
      simp only [waits, List.all_cons, Bool.true_or, Bool.true_and] at hwt
      have h0 := h
      simp only [flOKT, Bool.and_eq_true, List.all_eq_true, Bool.or_eq_true, Bool.not_eq_true', List.contains_eq_mem, decide_eq_true_eq, decide_eq_false_iff_not, beq_iff_eq] at hok
      obtain ⟨⟨⟨hne, hin⟩, hokk⟩, hall⟩ := hok
      obtain ⟨o, ho, h1⟩ := h
      simp only [planApart, List.all_cons, Bool.and_eq_true] at hpa
      rw [ho] at hpa
      have ho' : l.toArray[k]? = some o := by have := ho; rw [← nthO_eq] at this; simpa using this
      refine ⟨fun h0 => (by rw [h0] at hne; simp at hne), fun j hj => ?_⟩
      by_cases hjk : j = k
      · subst hjk
        unfold cOp
        rw [ho']
        simp only
        rw [putF_wanted hpa.1]
        split
        · rename_i hw
          simp only [hw, if_true] at h1
          have h2 := h1 w' hb hC
          unfold Calm at h2 ⊢
          rw [putF_exec (fun cs b => hsel j o cs b ho) hpa.1]
          have h3 : Calm P o a w' (fun v w'' => Keeps Gs bad j w' w'' ∧ wpAnyX P md l.toArray Gs bad Q (n + (r2.length + 2)) (listed.setIfInBounds j true) ((putF l pt F0 a).put o.dst v) w'') := by
            refine (show Calm P o a w' _ from h2).mono ?_
            rintro v w'' ⟨hb2, hC2, h4⟩
            refine ⟨fun g _ _ => nthG_all (hCG _ hC2) g, ?_⟩
            rw [← putF_put hpa.1]
            exact ih rest F _ pt _ w'' w'' hokk hpa.2 hwt (fun k hk => hnb k (List.mem_cons_of_mem _ hk)) hnd hF' hnone (fun i hi p hp => by
              obtain ⟨e1, e2, e3⟩ := hpt i hi p hp
              exact ⟨e1, Nat.lt_of_lt_of_le e2 hb2.size, by rw [hb2.block p e2]; exact e3⟩) hinj (Nat.le_trans hB hb2.size) (Below.refl _ _) hC2 h4
          exact h3
        · rename_i hw
          simp only [hw] at h1
          rw [← putF_put hpa.1]
          exact ih rest F _ pt _ w w' hokk hpa.2 hwt (fun k hk => hnb k (List.mem_cons_of_mem _ hk)) hnd hF' hnone hpt hinj hB hb hC h1
      · have hjF : j ∈ F := (hin j hj).resolve_left hjk
        refine hfl n ((k, true) :: rest) F listed pt a w w' (fun F' listed' pt' w2 h1 h2 h3 h4 h5 h6 h7 h8 h9 => ih ((k, true) :: rest) F' listed' pt' a w w2 h1 hpa0 hwt0 hnb h2 h3 h4 h5 h6 h7 h8 h9 h0) j hjF ?_ hnd hF' hnone hpt hinj hB hb hC
        rcases hall j hjF with h1 | h1
        · exact absurd hj h1
        · exact h1
theorem wpX_region_flT {Q : Act → World → Prop} {a : Act} {w : World} (plan1 : List (Nat × Bool)) (j2 k2 : Nat) (r2 : List Nat) (F0 : List Nat) (ob : Nat → Obj) (CL : List Nat) (bad : List (Nat × Nat)) (C : World → Prop) (Gs : List (World → Prop)) (hs : Region.noSelect l.toArray = true)
    (hlen : plan1.length + F0.length + (r2.length + 2) = l.length) (hok : flOKT .any l j2 k2 r2 (plan1.length + F0.length) (Array.replicate l.length false) plan1 F0 = true) (hpa : planApart l F0 plan1 = true) (hwt : waits .any l CL bad plan1 = true) (hnb : notBad bad plan1 F0 = true) (hsu : sundry l F0 = true) (hnd : F0.Nodup)
    (hl : ∀ j ∈ F0, Lays P l ob j) (hCa : ∀ w o, C w → C (w.alloc o)) (hCG : ∀ w, C w → ∀ G ∈ Gs, G w) (hC : C w.drew) (h : wpFl P l C Gs CL ob F0 w.drew.heap.size (wpTwo P l Gs bad Q j2 k2 r2) plan1 a w.drew) : wpAnyX P .any l.toArray Gs bad Q l.toArray.size (Array.replicate l.toArray.size false) a w.drew := by
  have hF0 : ∀ {F : List Nat} {a : Act}, putF l (fun _ => none) F a = a := by
    intro F
    induction F with
    | nil => intro a; rfl
    | cons j F ih =>
      intro a
      unfold putF
      split
      · rename_i h; cases h
      · exact ih
  have hb1 : ∀ k ∈ plan1, ∀ g, bad.contains (k.1, g) = false := fun k hk g => by
    cases h : bad.contains (k.1, g) with
    | false => rfl
    | true =>
      have h2 := List.all_eq_true.1 hnb (k.1, g) (by simpa using h)
      simp only [Bool.and_eq_true] at h2
      have h3 := List.all_eq_true.1 h2.1 k hk
      simp at h3
  have hb2 : ∀ j ∈ F0, ∀ g, bad.contains (j, g) = false := fun j hj g => by
    cases h : bad.contains (j, g) with
    | false => rfl
    | true =>
      have h2 := List.all_eq_true.1 hnb (j, g) (by simpa using h)
      simp only [Bool.and_eq_true, Bool.not_eq_true', List.contains_eq_mem, decide_eq_false_iff_not] at h2
      exact absurd hj h2.2
  have h1 := wpAnyC_of_flT (md := .any) hs hsu hl hCa hCG hb2 (plan1.length + F0.length) plan1 F0 (Array.replicate l.length false) (fun _ => none) a w.drew w.drew hok hpa hwt hb1 hnd (fun j hj => hj) (fun j hj => by simp [hj]) (fun j hj p hp => by cases hp) (fun i hi j hj p hp => by cases hp)
    (Nat.le_refl _) (Below.refl _ _) hC h
  rw [hF0] at h1
  rw [hlen] at h1
  simpa using h1
theorem wp_region_flT {id : Nat} {Q : Exit → Act → World → Prop} {a : Act} {w : World} (plan1 : List (Nat × Bool)) (j2 k2 : Nat) (r2 : List Nat) (F0 : List Nat) (ob : Nat → Obj) (CL : List Nat) (bad : List (Nat × Nat)) (C : World → Prop) (Gs : List (World → Prop)) (hm : P.follows .mixedOrders = true) (hs : Region.noSelect l.toArray = true)
    (hlen : plan1.length + F0.length + (r2.length + 2) = l.length) (hok : flOKT .any l j2 k2 r2 (plan1.length + F0.length) (Array.replicate l.length false) plan1 F0 = true) (hpa : planApart l F0 plan1 = true) (hwt : waits .any l CL bad plan1 = true) (hnb : notBad bad plan1 F0 = true) (hsu : sundry l F0 = true) (hnd : F0.Nodup)
    (hl : ∀ j ∈ F0, Lays P l ob j) (hCa : ∀ w o, C w → C (w.alloc o)) (hCG : ∀ w, C w → ∀ G ∈ Gs, G w) (hC : C w.drew) (h : wpFl P l C Gs CL ob F0 w.drew.heap.size (wpTwo P l Gs bad (Q .normal) j2 k2 r2) plan1 a w.drew) : (Code.region id l.toArray true).wp P Q a w :=
  (wpIn_wide (n := 0)).1 (show (Code.region id l.toArray true).wpIn (FW none) 0 P Q a w from wpIn_region_any hm (wpAnyIn_of_x (fun _ _ hq => hq) _ _ _ _ (wpX_region_flT plan1 j2 k2 r2 F0 ob CL bad C Gs hs hlen hok hpa hwt hnb hsu hnd hl hCa hCG hC h)))
end
section
variable {P : Program} {l : List Oper} {a : Act} {w : World}
theorem wp_region_f4T {id : Nat} {Q : Exit → Act → World → Prop} (plan1 : List (Nat × Bool)) (j2 k2 : Nat) (r2 : List Nat) (F0 : List Nat) (ob : Nat → Obj) (CL : List Nat) (bad : List (Nat × Nat)) {bs : List BkT} (hC : AllB bs w) (hl : ∀ j ∈ F0, Lays P l ob j)
    (h : ∀ w', Below w.heap.size w w' → wpFl P l (AllB bs) (bs.map BG) CL ob F0 w'.heap.size (wpTwo P l (bs.map BG) bad (Q .normal) j2 k2 r2) plan1 a w')
    (hm : P.follows .mixedOrders = true := by kernel_rfl) (hs : Region.noSelect l.toArray = true := by kernel_rfl)
    (hlen : plan1.length + F0.length + (r2.length + 2) = l.length := by kernel_rfl) (hok : flOKT .any l j2 k2 r2 (plan1.length + F0.length) (Array.replicate l.length false) plan1 F0 = true := by kernel_rfl) (hpa : planApart l F0 plan1 = true := by kernel_rfl) (hwt : waits .any l CL bad plan1 = true := by kernel_rfl) (hnb : notBad bad plan1 F0 = true := by kernel_rfl) (hsu : sundry l F0 = true := by kernel_rfl) (hnd : F0.Nodup := by decide) : (Code.region id l.toArray true).wp P Q a w :=
  wp_region_flT plan1 j2 k2 r2 F0 ob CL bad (AllB bs) (bs.map BG) hm hs hlen hok hpa hwt hnb hsu hnd hl (fun _ _ hC => hC.alloc) (fun _ hC => hC.get) (hC.bl (Below.refl _ _).drew) (h _ (Below.refl _ _).drew)
end
set_option linter.unusedSimpArgs false
/-- The leading determinants of the Gram matrix. -/
def mins (n W : Nat) (M : Nat → Nat → Int × Int) : List Int := (List.range (n + 1)).map fun k => (Dt.det k (gG W M)).1
theorem mins_pvz {n W r : Nat} {M : Nat → Nat → Int × Int} (hr : r ≤ n) (h0 : r = n ∨ Dt.det (r + 1) (gG W M) = 0) : ([1] ++ pvz (gG W M) r) ++ List.replicate (n - r) 0 = mins n W M := by
  unfold mins pvz
  refine List.ext_getElem (by simp; omega) fun i h1 h2 => ?_
  have hi : i ≤ n := by simp at h2; omega
  simp only [List.getElem_map, List.getElem_range]
  by_cases c : i ≤ r
  · rw [List.getElem_append_left (by simp; omega)]
    cases i with
    | zero => simp; rfl
    | succ i => simp
  · rw [List.getElem_append_right (by simp; omega)]
    simp only [List.getElem_replicate]
    rcases h0 with h0 | h0
    · omega
    · rw [gram_0s h0 (by omega)]; rfl
section
variable {w : World} {la n k L ca : Nat} {oa : Option Addr} {A : List (List (Int × Int))}
set_option maxHeartbeats 4000000 in
set_option maxRecDepth 20000 in
theorem minors_ok (ha : MN la w oa A) (hna : A.length = n) (h : gd A) (hk : wd A = k) (hB : MinB n n L (gG k (at2 A))) (hL : L ≤ 3300000) (hla : la ≤ 10000000) :
    Calls Tryz.prog 9 #[.slice oa n ca] w fun e w' => ∃ o c xs, e = .returned (.tuple #[.slice o (n + 1) c, .int .i64 0]) ∧ Lst w' w.heap.size 24 2 (.slice o (n + 1) c) (n + 1) xs ∧ ZL w' xs (mins n k (at2 A)) ∧ Below w.heap.size w w' := by
  have HA := hide ha
  have H := hide h
  have HK := hide hk
  have HB := hide hB.D
  have HRE := hide (fun m => real_2 (gG_real (W := k) (M := at2 A) m))
  have hn64 : n ≤ 64 := by have := h.1; omega
  clear ha h hk hB
  go_enter Tryz.func9, Tryz.ntmps9
  have hs := St.nil w
  refine wp_seq_k ?_
  intro K1 hK1
  refine rg [0, 1] ?_
  refine sq ?_
  refine .mv ?_
  refine sq ?_
  refine .mv ?_
  apply wpSq_end
  refine hK1 _ _ ?_
  refine wp_seq_k ?_
  intro K2 hK2
  refine rg [0, 1, 2, 3, 4, 5, 6, 7] ?_
  refine sq ?_
  refine .mv ?_
  refine sq ?_
  intro K hK
  have hb := hs.b
  go_big_op
  go_fit (mGram_ok (HA.out.bl stab_n hb) hna H.out HK.out hla)
  rintro e w_1 ⟨o_G, c_G, rs_G, rfl, hl_G, hs_G, d_G, hb_1⟩
  clear hb
  replace hs := hs.mx hl_G hs_G; simp only [List.nil_append] at hs
  refine hK _ _ rfl trivial ?_
  clear hK K
  refine sq ?_
  refine .mv ?_
  refine sq ?_
  refine .r0 ?_
  refine sq ?_
  refine .r0 ?_
  refine sq ?_
  refine .al hs ?_; clear hs; intro p_b1 w_2 hs n2 kb_b1
  refine sq ?_
  refine .s1 hs.g0 (fun _ => hs.u0 kb_b1) ?_; clear hs; intro w_3 hs hd3 ho3
  refine sq ?_
  refine .mv ?_
  apply wpSq_end
  refine hK2 _ _ ?_
  refine wp_seq_k ?_
  intro K3 hK3
  refine wp_seq_k ?_
  intro K4 hK4
  refine rg [0, 1] ?_
  refine sq ?_
  refine .mv ?_
  refine sq ?_
  refine .r0 ?_
  apply wpSq_end
  refine hK4 _ _ ?_
  refine cf ?_
  refine wp_skip ?_
  refine hK3 _ _ ?_
  refine wp_seq_k ?_
  intro K5 hK5
  refine wp_region_f4T [(2, false), (3, false), (0, true)] 1 4 [5, 6] [] (fun _ => default) [99, 99, 0, 99, 99, 99, 99] [] (.c hs.g0 .n) fn fun w_4 n4 => ?_
  replace hs := hs.bl n4
  refine f1 ?_
  refine f0 ?_
  refine fl fun w_5 n5 => ?_
  replace hs := hs.bl n5
  intro K hK
  go_big_op
  go_fit (from_any 1 _ (by decide) (by decide))
  rintro e w_6 ⟨v_u, rfl, u, hb_6⟩
  replace hs := hs.bl hb_6
  replace u := u.rd
  obtain ⟨n_u, o_u, k_u, c_u, rfl⟩ := u.open2
  refine hK _ _ rfl ⟨hb_6, (And.intro hs.g0 trivial)⟩ ?_
  clear hK K
  refine e0 hs ?_; clear hs; intro w_7 hs n7
  refine And.intro ?_ ?_
  · have HZ := True.intro
    refine tl ?_
    refine .al hs ?_ (e := fun _ _ hs _ => (And.intro hs.g1 True.intro)); clear hs; intro p_b2 w_8 hs n8 kb_b2
    have k6_8 := (kb n7).b n8
    replace u := u.k k6_8
    have hM : ZL w_8 [.bool n_u, .slice o_u k_u c_u] [1] := ⟨u, trivial⟩
    refine tl ?_
    intro K hK
    have k1_8 := ((((((kb n2).o hd3 ho3).b n4).b n5).b hb_6).b n7).b n8
    replace d_G := d_G.k k1_8
    go_big_op
    go_fit (elimZ_any (bs := [ls w.heap.size 24 2 (.slice (some ⟨p_b2, 0, none⟩) 1 1) 1 [.bool n_u, .slice o_u k_u c_u]]) ((St.lsOf (n := 1) (sz := 2) hs kb_b2 rfl rfl (by decide)).perm ((List.Perm.swap _ _ _).trans ((List.Perm.cons _ (List.Perm.swap _ _ _)).trans (List.Perm.swap _ _ _)))) kb_b1 entP_minors (pivZ_minors kb_b1 (by omega) HB.out hL HRE.out) hl_G d_G (by omega) (by omega) HRE.out HB.out hL)
    have bb9 := hs.b
    rintro e w_9 ⟨o9, c9, xs, r, F2, rs2, rfl, hrn, hF, hne, hL9, hl2, hd2, hs', kp9⟩
    clear hs; have hs := hs'; clear hs'
    have bc9 := hs.b
    clear bb9 bc9
    simp only [List.cons_append] at hs
    refine hK _ _ rfl (And.intro hs.g2 True.intro) ?_
    clear hK K
    refine tl ?_
    have k8_9 := kp9
    replace hM := hM.k k8_9
    have ho10 := hL9.one
    replace hM := hM.app hL9
    refine .aps 3 0 hs ho10 ?_ (eE := fun _ _ _ hs => (And.intro hs.g2 True.intro)); clear hs ho10; intro o_M_10 c_M_10 w_10 hs kp10 hw10; simp only [List.set_cons_succ, List.set_cons_zero] at hs
    refine tl ?_
    refine .mv ?_ (e := (And.intro hs.g2 True.intro))
    apply wpTail_end
    refine hK5 _ _ ?_
    refine wp_seq_k ?_
    intro K6 hK6
    refine rg [0, 1, 2, 3, 4, 5, 6, 7, 8, 9] ?_
    refine sq ?_
    refine .mv ?_
    refine sq ?_
    refine .r1 hs.g2.f1 ?_
    refine sq ?_
    refine .r0 ?_
    refine sq ?_
    refine .r0 ?_
    refine sq ?_
    refine .mv ?_
    refine sq ?_
    refine .r0 ?_
    refine sq ?_
    refine .r0 ?_
    refine sq ?_
    have k9_10 := kp10
    replace hM := hM.k k9_10
    replace hM := hM.app (ZL.zeros w_10 (n - r))
    refine .apz (zc := #[.bool false, .slice none 0 0]) (q := ((n : Int) + 1 - ((1 + r : Nat) : Int))) 3 (n - r) (by omega) hs ?_; clear hs; intro o_M_11 c_M_11 w_11 hs kp11 hw11; simp only [List.set_cons_succ, List.set_cons_zero] at hs
    refine sq ?_
    refine .mv ?_
    refine sq ?_
    refine .mv ?_
    apply wpSq_end
    refine hK6 _ _ ?_
    refine wp_ret ?_
    have HN := hide (show 1 + r + (n - r) = n + 1 by omega)
    have k10_11 := kp11
    replace hM := hM.k k10_11
    rw [mins_pvz hrn hF] at hM
    rw [← HN.out]
    try dsimp only [Exit.then, Exit.inBlock]
    refine bodyPost_ret (v := (.tuple #[(.slice o_M_11 ((1 + r) + (n - r)) c_M_11), (.int .i64 0)])) (by simp [results, Tryz.results9, go_sem]) rfl ?_
    exact ⟨_, _, _, rfl, hs.1.2.2.2.1.1, hM, hs.b⟩
  · have HZ := True.intro
    refine tl ?_
    intro K hK
    have k1_7 := (((((kb n2).o hd3 ho3).b n4).b n5).b hb_6).b n7
    replace d_G := d_G.k k1_7
    go_big_op
    go_fit (elimZ_any (bs := []) (hs.perm (List.Perm.swap _ _ _)) kb_b1 entP_minors (pivZ_minors kb_b1 (by omega) HB.out hL HRE.out) hl_G d_G (by omega) (by omega) HRE.out HB.out hL)
    have bb8 := hs.b
    rintro e w_8 ⟨o9, c9, xs, r, F2, rs2, rfl, hrn, hF, hne, hL9, hl2, hd2, hs', kp8⟩
    clear hs; have hs := hs'; clear hs'
    have bc8 := hs.b
    clear bb8 bc8
    refine hK _ _ rfl (And.intro hs.g2 True.intro) ?_
    clear hK K
    refine tl ?_
    refine .al hs ?_ (e := fun _ _ hs _ => (And.intro hs.g3 True.intro)); clear hs; intro p_b2 w_9 hs n9 kb_b2
    have k6_9 := ((kb n7).t kp8).b n9
    replace u := u.k k6_9
    have hM : ZL w_9 [.bool n_u, .slice o_u k_u c_u] [1] := ⟨u, trivial⟩
    replace hs := St.lsOf (n := 1) (sz := 2) hs kb_b2 rfl rfl (by decide)
    refine tl ?_
    have k8_9 := kb n9
    replace hL9 := hL9.k k8_9
    have ho10 := hL9.one
    replace hM := hM.app hL9
    refine .aps 0 1 hs ho10 ?_ (eE := fun _ _ _ hs => (And.intro hs.g3 True.intro)); clear hs ho10; intro o_M_10 c_M_10 w_10 hs kp10 hw10; simp only [List.set_cons_succ, List.set_cons_zero] at hs
    refine tl ?_
    refine .mv ?_ (e := (And.intro hs.g3 True.intro))
    apply wpTail_end
    refine hK5 _ _ ?_
    refine wp_seq_k ?_
    intro K6 hK6
    refine rg [0, 1, 2, 3, 4, 5, 6, 7, 8, 9] ?_
    refine sq ?_
    refine .mv ?_
    refine sq ?_
    refine .r1 hs.g3.f1 ?_
    refine sq ?_
    refine .r0 ?_
    refine sq ?_
    refine .r0 ?_
    refine sq ?_
    refine .mv ?_
    refine sq ?_
    refine .r0 ?_
    refine sq ?_
    refine .r0 ?_
    refine sq ?_
    have k9_10 := kp10
    replace hM := hM.k k9_10
    replace hM := hM.app (ZL.zeros w_10 (n - r))
    refine .apz (zc := #[.bool false, .slice none 0 0]) (q := ((n : Int) + 1 - ((1 + r : Nat) : Int))) 0 (n - r) (by omega) hs ?_; clear hs; intro o_M_11 c_M_11 w_11 hs kp11 hw11; simp only [List.set_cons_succ, List.set_cons_zero] at hs
    refine sq ?_
    refine .mv ?_
    refine sq ?_
    refine .mv ?_
    apply wpSq_end
    refine hK6 _ _ ?_
    refine wp_ret ?_
    have HN := hide (show 1 + r + (n - r) = n + 1 by omega)
    have k10_11 := kp11
    replace hM := hM.k k10_11
    rw [mins_pvz hrn hF] at hM
    rw [← HN.out]
    try dsimp only [Exit.then, Exit.inBlock]
    refine bodyPost_ret (v := (.tuple #[(.slice o_M_11 ((1 + r) + (n - r)) c_M_11), (.int .i64 0)])) (by simp [results, Tryz.results9, go_sem]) rfl ?_
    exact ⟨_, _, _, rfl, hs.1.1.1, hM, hs.b⟩
end
end Go.Proofs.YtcoodkdalblalaaGreatDoor
