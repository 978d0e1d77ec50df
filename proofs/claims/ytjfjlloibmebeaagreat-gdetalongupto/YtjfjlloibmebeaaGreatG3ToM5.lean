/- The reference's Gaussian integers; the law's is and g. -/
import Derived.Test.YtjfjlloibmebeaaGreatM2ToG2
import Derived.Test.YtjfjlloibmebeaaGreatY8
import Derived.Test.YtjfjlloibmebeaaGreatWkToM1
import Derived.OrdersIn
import Derived.RangeFuncFrom
import Derived.RangeFuncNested
import Derived.RangeFuncBound

namespace Go.Proofs.YtjfjlloibmebeaaGreat
open Go Go.RowKit Dig
set_option linter.unusedVariables false

section
variable {w : World} {va vb : Value} {x y u v : Int} {l m k n : Nat}

set_option maxHeartbeats 4000000 in
set_option maxRecDepth 20000 in
theorem rgSame_any (ha : PC w va x y) (hq : PN w vb x l y m) (hl : l ≤ 100000000) (hm : m ≤ 100000000) :
    Calls Tryz.prog 156 #[va, vb] w fun e w' => e = .returned (.bool true) ∧ Below w.heap.size w w' := by
  obtain ⟨n_0a, o_0a, k_0a, c_0a, n_0b, o_0b, k_0b, c_0b, rfl, ha1, ha2⟩ := ha
  obtain ⟨n_1a, o_1a, k_1a, c_1a, n_1b, o_1b, k_1b, c_1b, rfl, hq1, hq2⟩ := hq
  go_enter Tryz.func156, Tryz.ntmps156
  have hs := St.nil w
  refine wp_seq_k ?_
  intro K1 hK1
  refine rg [0, 1, 2] ?_
  refine sq ?_
  refine .al hs ?_; clear hs; intro p_b1 w_1 hs n1 kb_b1
  refine sq ?_
  refine .al hs ?_; clear hs; intro p_b2 w_2 hs n2 kb_b2
  refine sq ?_
  refine .mv ?_
  apply wpSq_end
  refine hK1 _ _ ?_
  refine wp_seq_k ?_
  intro K2 hK2
  refine rg [0, 1, 2, 3, 4, 5, 6, 7, 8, 9, 10, 11, 12] ?_
  refine sq ?_
  refine .r0 ?_
  refine sq ?_
  refine .r4 hs.g1.f4 ?_
  refine sq ?_
  refine .r0 ?_
  refine sq ?_
  refine .r4 hs.g0.f4 ?_
  refine sq ?_
  intro K hK
  have k0_2 := (kb n1).b n2
  replace ha1 := ha1.k k0_2
  replace hq1 := hq1.k k0_2
  go_big_op
  go_fit (rsame_zz ha1 hq1 (by omega) )
  rintro e w_3 ⟨rfl, hb_3⟩
  replace hs := hs.bl hb_3
  refine hK _ _ rfl trivial ?_
  clear hK K
  refine sq ?_
  refine .mv ?_
  refine sq ?_
  refine .r0 ?_
  refine sq ?_
  refine .r4 hs.g1.f4 ?_
  refine sq ?_
  refine .r0 ?_
  refine sq ?_
  refine .r4 hs.g0.f4 ?_
  refine sq ?_
  intro K hK
  have k0_3 := k0_2.b hb_3
  replace ha2 := ha2.k k0_3
  replace hq2 := hq2.k k0_3
  go_big_op
  go_fit (rsame_zz ha2 hq2 (by omega) )
  rintro e w_4 ⟨rfl, hb_4⟩
  replace hs := hs.bl hb_4
  refine hK _ _ rfl trivial ?_
  clear hK K
  refine sq ?_
  refine .r0 ?_
  refine sq ?_
  refine .mv ?_
  apply wpSq_end
  refine hK2 _ _ ?_
  refine wp_ret ?_
  try dsimp only [Exit.then, Exit.inBlock]
  refine bodyPost_ret (v := (.bool true)) (by simp [results, Tryz.results156, go_sem]) rfl ?_
  have hb := hs.b
  exact ⟨rfl, hb⟩
set_option maxHeartbeats 4000000 in
set_option maxRecDepth 20000 in
theorem rgI_any (a b : Int) (w : World) (h1 : -9223372036854775808 ≤ a) (h2 : a ≤ 9223372036854775807) (h3 : -9223372036854775808 ≤ b) (h4 : b ≤ 9223372036854775807) :
    Calls Tryz.prog 141 #[.int .i64 a, .int .i64 b] w fun e w' => ∃ r, e = .returned r ∧ PC w' r a b ∧ Below w.heap.size w w' := by
  go_enter Tryz.func141, Tryz.ntmps141
  have hs := St.nil w
  refine wp_seq_k ?_
  intro K1 hK1
  refine rg [0] ?_
  refine sq ?_
  refine .al hs ?_; clear hs; intro p_b1 w_1 hs n1 kb_b1
  apply wpSq_end
  refine hK1 _ _ ?_
  refine wp_seq_k ?_
  intro K2 hK2
  refine rg [0, 1, 2, 3, 4, 5] ?_
  refine sq ?_
  refine .mv ?_
  refine sq ?_
  intro K hK
  go_big_op
  go_fit (ri_any a _ h1 h2)
  rintro e w_2 ⟨v_g1, rfl, g1, hb_2⟩
  replace hs := hs.bl hb_2
  replace g1 := g1.rd
  obtain ⟨n_g1, o_g1, k_g1, c_g1, rfl⟩ := g1.open2
  refine hK _ _ rfl trivial ?_
  clear hK K
  refine sq ?_
  refine .mv ?_
  refine sq ?_
  intro K hK
  go_big_op
  go_fit (ri_any b _ h3 h4)
  rintro e w_3 ⟨v_g2, rfl, g2, hb_3⟩
  replace hs := hs.bl hb_3
  replace g2 := g2.rd
  obtain ⟨n_g2, o_g2, k_g2, c_g2, rfl⟩ := g2.open2
  refine hK _ _ rfl trivial ?_
  clear hK K
  refine sq ?_
  refine .r0 ?_
  refine sq ?_
  refine .s4 hs.g0 (fun _ => hs.u0 kb_b1) ?_; clear hs; intro w_4 hs hd4 ho4
  apply wpSq_end
  refine hK2 _ _ ?_
  refine wp_ret ?_
  try dsimp only [Exit.then, Exit.inBlock]
  obtain ⟨r0_0, r0_1, r0_2, r0_3⟩ := hs.g0.f4
  refine bodyPost_ret (v := (.agg #[.bool n_g1, .slice o_g1 k_g1 c_g1, .bool n_g2, .slice o_g2 k_g2 c_g2])) (by simp [results, Tryz.results141, go_sem, r0_0, r0_1, r0_2, r0_3]) rfl ?_
  have k2_4 := (kb hb_3).o hd4 ho4
  replace g1 := g1.k k2_4
  have k3_4 := ko hd4 ho4
  replace g2 := g2.k k3_4
  exact ⟨_, rfl, .mk' g1 g2, hs.b⟩
set_option maxHeartbeats 4000000 in
set_option maxRecDepth 20000 in
theorem gFrom_any (a b : Int) (w : World) (h1 : -9223372036854775808 ≤ a) (h2 : a ≤ 9223372036854775807) (h3 : -9223372036854775808 ≤ b) (h4 : b ≤ 9223372036854775807) :
    Calls Tryz.prog 39 #[.int .i64 a, .int .i64 b] w fun e w' => ∃ r, e = .returned r ∧ PC w' r a b ∧ Below w.heap.size w w' := by
  go_enter Tryz.func39, Tryz.ntmps39
  have hs := St.nil w
  refine wp_seq_k ?_
  intro K1 hK1
  refine rg [0] ?_
  refine sq ?_
  refine .al hs ?_; clear hs; intro p_b1 w_1 hs n1 kb_b1
  apply wpSq_end
  refine hK1 _ _ ?_
  refine wp_seq_k ?_
  intro K2 hK2
  refine rg [0, 1, 2, 3, 4, 5] ?_
  refine sq ?_
  refine .mv ?_
  refine sq ?_
  intro K hK
  go_big_op
  go_fit (from_any a _ h1 h2)
  rintro e w_2 ⟨v_g1, rfl, g1, hb_2⟩
  replace hs := hs.bl hb_2
  replace g1 := g1.rd
  obtain ⟨n_g1, o_g1, k_g1, c_g1, rfl⟩ := g1.open2
  refine hK _ _ rfl trivial ?_
  clear hK K
  refine sq ?_
  refine .mv ?_
  refine sq ?_
  intro K hK
  go_big_op
  go_fit (from_any b _ h3 h4)
  rintro e w_3 ⟨v_g2, rfl, g2, hb_3⟩
  replace hs := hs.bl hb_3
  replace g2 := g2.rd
  obtain ⟨n_g2, o_g2, k_g2, c_g2, rfl⟩ := g2.open2
  refine hK _ _ rfl trivial ?_
  clear hK K
  refine sq ?_
  refine .r0 ?_
  refine sq ?_
  refine .s4 hs.g0 (fun _ => hs.u0 kb_b1) ?_; clear hs; intro w_4 hs hd4 ho4
  apply wpSq_end
  refine hK2 _ _ ?_
  refine wp_ret ?_
  try dsimp only [Exit.then, Exit.inBlock]
  obtain ⟨r0_0, r0_1, r0_2, r0_3⟩ := hs.g0.f4
  refine bodyPost_ret (v := (.agg #[.bool n_g1, .slice o_g1 k_g1 c_g1, .bool n_g2, .slice o_g2 k_g2 c_g2])) (by simp [results, Tryz.results39, go_sem, r0_0, r0_1, r0_2, r0_3]) rfl ?_
  have k2_4 := (kb hb_3).o hd4 ho4
  replace g1 := g1.k k2_4
  have k3_4 := ko hd4 ho4
  replace g2 := g2.k k3_4
  exact ⟨_, rfl, .mk' g1 g2, hs.b⟩
end
end Go.Proofs.YtjfjlloibmebeaaGreat


/- The reference's matrices: Good, Cols, List, Same. -/
namespace Go.Proofs.YtjfjlloibmebeaaGreat
open Go Go.RowKit Dig
set_option linter.unusedVariables false
section
variable {w : World} {l n k cm c1 c2 : Nat} {om o1 o2 : Option Addr} {Ms : List (List (Int × Int))} {ps : List (Int × Int)}
end
end Go.Proofs.YtjfjlloibmebeaaGreat


/- The reference's Good and Cols. -/
namespace Go.Proofs.YtjfjlloibmebeaaGreat
open Go Go.RowKit Dig
set_option linter.unusedVariables false
section
variable {w : World} {l n k cm : Nat} {om : Option Addr} {Ms : List (List (Int × Int))}
end
end Go.Proofs.YtjfjlloibmebeaaGreat


/- A range over a function: a round's body walked by the same steps as everywhere; the loop's law, by a count of rounds. -/
namespace Go.Proofs.YtjfjlloibmebeaaGreat
open Go Go.RowKit Dig
set_option linter.unusedVariables false

abbrev FR (lr : Nat) : Fence := FW (some lr)
section
variable {P : Program} {o : Oper} {a : Act} {w : World} {lr m : Nat} {l : List Oper}
theorem rgR {id : Nat} {Q : Exit → Act → World → Prop} (plan : List Nat) (h : wpSq P l (Q .normal) plan a w) (hp : List.range l.length = plan := by kernel_rfl) : (Code.region id l.toArray false).wpIn (FR lr) m P Q a w := wpIn_region_sq plan hp h
theorem wp_region_f4R {id : Nat} {Q : Exit → Act → World → Prop} (plan1 : List (Nat × Bool)) (plan2 : List Nat) (F0 : List Nat) (ob : Nat → Obj) (CL : List Nat) (bad : List (Nat × Nat)) {bs : List BkT} (hC : AllB bs w) (hl : ∀ j ∈ F0, Lays P l ob j)
    (h : ∀ w', Below w.heap.size w w' → wpFl P l (AllB bs) (bs.map BG) CL ob F0 w'.heap.size (wpTail P l (bs.map BG) bad (Q .normal) plan2) plan1 a w')
    (hm : P.follows .mixedOrders = true := by kernel_rfl) (hs : Region.noSelect l.toArray = true := by kernel_rfl)
    (hlen : plan1.length + F0.length + plan2.length = l.length := by kernel_rfl) (hok : flOK .any l plan2 (plan1.length + F0.length) (Array.replicate l.length false) plan1 F0 = true := by kernel_rfl) (hpa : planApart l F0 plan1 = true := by kernel_rfl) (hwt : waits .any l CL bad plan1 = true := by kernel_rfl) (hnb : notBad bad plan1 F0 = true := by kernel_rfl) (hsu : sundry l F0 = true := by kernel_rfl) (hnd : F0.Nodup := by decide) : (Code.region id l.toArray true).wpIn (FR lr) m P Q a w :=
  wpIn_region_any hm (wpAnyIn_of_x (fun _ _ hq => hq) _ _ _ _ (wpX_region_fl plan1 plan2 F0 ob CL bad (AllB bs) (bs.map BG) hs hlen hok hpa hwt hnb hsu hnd hl (fun _ _ hC => hC.alloc) (fun _ hC => hC.get) (hC.bl (Below.refl _ _).drew) (h _ (Below.refl _ _).drew)))
theorem ctR {Q : Exit → Act → World → Prop} {c : Operand} {x y : Code} {v : Bool} (h : x.wpIn (FR lr) m P Q a w) (he : a.eval c = .bool v := by rfl) (hv : v = true := by first | rfl | assumption | (simp; done) | exact decide_eq_true (by omega) | omega) : (Code.cond c x y).wpIn (FR lr) m P Q a w := wpIn_cond_true (he.trans (congrArg Value.bool hv)) h
theorem cfR {Q : Exit → Act → World → Prop} {c : Operand} {x y : Code} {v : Bool} (h : y.wpIn (FR lr) m P Q a w) (he : a.eval c = .bool v := by rfl) (hv : v = false := by first | rfl | assumption | (simp; done) | exact decide_eq_false (by omega) | omega) : (Code.cond c x y).wpIn (FR lr) m P Q a w := wpIn_cond_false (he.trans (congrArg Value.bool hv)) h
end

/-- All cells lie as they lay. -/
def Cm (w w' : World) : Prop := ∀ (p : Nat) (c : Array Value) (t : TypeId) (z : Nat × Nat), w.heap[p]? = some (Obj.cells c t z) → w'.heap[p]? = some (Obj.cells c t z)
theorem Cm.cell {w w' : World} (h : Cm w w') {p : Addr} {v : Value} (hv : w.cell? p = some v) : w'.cell? p = some v := by
  unfold World.cell? at hv ⊢
  split at hv
  · rename_i c t z hh
    rw [h _ _ _ _ hh]; exact hv
  · cases hv
theorem Cm.kp {w w' : World} (h : Cm w w') : Kp w w' := fun oa ds hc => by
  by_cases hne : ds = []
  · exact .inl hne
  · obtain ⟨c, off, e, hx⟩ := hc.resolve_left hne
    exact .inr ⟨c, off, e, fun i hi => h.cell (hx i hi)⟩
theorem Cm.of_below {w w' : World} (h : Below w.heap.size w w') : Cm w w' := fun p c t z hp => by
  rw [h.block p (by rcases Nat.lt_or_ge p w.heap.size with h1 | h1; exact h1; rw [Array.getElem?_eq_none h1] at hp; cases hp)]; exact hp
theorem Cm.po {w : World} {l : Nat} {o : Obj} (o' : Obj) (h : w.heap[l]? = some o) (ho : o.isCells = false) : Cm w (w.putObj l o') := fun p c t z hp => by
  rw [World.putObj_heap_other (fun e => by subst e; rw [h] at hp; cases hp; cases ho)]; exact hp
theorem Bs.cm {w w' : World} {p : Nat} {cs : Array Value} {ty : TypeId} {fz : Nat × Nat} (h : Bs w p cs ty fz) (hc : Cm w w') : Bs w' p cs ty fz := hc _ _ _ _ h
/-- An object that is no row of cells, as an entry of the state. -/
def ob (l : Nat) (o : Obj) : En := (some l, fun w => w.heap[l]? = some o)
theorem Ok.ob {w : World} {l : Nat} {o : Obj} (h : w.heap[l]? = some o) : Ok (Go.Proofs.YtjfjlloibmebeaaGreat.ob l o) w := by
  refine ⟨h, fun k hk => ?_, fun w' hk _ => ?_⟩
  · obtain rfl : l = k := by simpa [Go.Proofs.YtjfjlloibmebeaaGreat.ob] using hk
    exact (Array.getElem?_eq_some_iff.1 h).1
  · show w'.heap[l]? = _
    rw [hk l rfl]; exact h
section
variable {w0 w : World} {bs : List En} {l : Nat} {o : Obj} {e : En}
theorem St.at (h : St w0 bs w) {i : Nat} (hi : bs[i]? = some e) : Ok e w := by
  have key : ∀ {bs : List En} {i : Nat}, AllE bs w → bs[i]? = some e → Ok e w := by
    intro bs
    induction bs with
    | nil => intro i _ hi; simp at hi
    | cons b t ih =>
      intro i hA hi
      cases i with
      | zero => obtain rfl : b = e := by simpa using hi
                exact hA.1
      | succ i => exact ih hA.2 (by simpa using hi)
  exact key h.1 hi
theorem St.obj (h : St w0 bs w) (i : Nat) (hi : bs[i]? = some (ob l o) := by rfl) : w.heap[l]? = some o := (h.at hi).1
theorem St.po (h : St w0 bs w) (i : Nat) (o' : Obj) (hl : Hid (w0.heap.size ≤ l)) (hi : bs[i]? = some (ob l o) := by rfl) : St w0 (bs.set i (ob l o')) (w.putObj l o') := by
  have hlt : l < w.heap.size := (Array.getElem?_eq_some_iff.1 (h.obj i hi)).1
  refine h.st i hi (fun k _ hne => World.putObj_heap_other (fun e => hne (by rw [e]; rfl))) (by rw [World.putObj_size]; exact Nat.le_refl _) (Ok.ob (World.putObj_heap_same hlt)) (fun k hk => .inl hk) ?_
  refine ⟨h.b.os, h.b.tape, h.b.output, by rw [World.putObj_size]; exact h.k, fun k hk => ?_⟩
  rw [World.putObj_heap_other (fun e => by have : w0.heap.size ≤ l := hl; omega)]
  exact h.b.block k hk
theorem St.ao (h : St w0 bs w) (o : Obj) : St w0 (ob w.heap.size o :: bs) (w.alloc o) := by
  refine .cons (Ok.ob (World.alloc_heap_new w o)) (fun f hf k hk hc => ?_) (h.bl ((Below.refl _ w).alloc (Nat.le_refl _) o))
  have h1 := h.lt f hf k hc
  obtain rfl : w.heap.size = k := by simpa [ob] using hk
  exact Nat.lt_irrefl _ h1
end

/-- Two blocks that a call has laid join the state. -/
theorem St.app2 {w0 w w' : World} {bs : List En} {p q : Nat} {cs ds : Array Value} {ty t2 : TypeId} (hs : St w0 bs w) (h : St w [bx p cs ty, bx q ds t2] w') (k1 : Hid (w.heap.size ≤ p)) (k2 : Hid (w.heap.size ≤ q)) : St w0 (bx p cs ty :: bx q ds t2 :: bs) w' :=
  hs.app h fun e he k hk => by
    simp only [List.mem_cons, List.not_mem_nil, or_false] at he
    rcases he with rfl | rfl
    · obtain rfl : p = k := by simpa [bx] using hk
      exact k1
    · obtain rfl : q = k := by simpa [bx] using hk
      exact k2
/-- An iterator: it hands on n rows of values, one behind the other, to whatever body keeps what it reads (R); it may be stopped. -/
def ItN (P : Program) (gf : Nat) (lb : Array Value) (n : Nat) (encs : Nat → Array Value) (R : World → Prop) : Prop :=
  ∀ (l : Nat) (J Jx : Nat → World → Prop) (W : World), (∀ k A B, J k A → Below A.heap.size A B → J k B) → (∀ k A B, Jx k A → Below A.heap.size A B → Jx k B) → (∀ k W1, J k W1 → R W1) → (∀ k W1, Jx k W1 → R W1) →
    (∀ k W1, k < n → J k W1 → YieldAt Fence.wide 0 P l (encs k) W1 fun e W' => (e = .returned (.bool true) ∧ J (k + 1) W') ∨ (e = .returned (.bool false) ∧ Jx k W')) →
    J 0 W → Calls P gf (#[.func (.yield l) #[] #[]] ++ lb) W fun e W' => (∃ v, e = .returned v) ∧ (J n W' ∨ ∃ k, k < n ∧ Jx k W')
theorem er_none {P : Program} {w : World} {l : Nat} {r : Loop} (h : w.heap[l]? = some (.loop r)) : (Instr.endRound l none).run P w = .ok (.bool true) (w.putObj l (.loop { r with state := .ready, pending := none })) := run_endRound none h
theorem er_some {P : Program} {w : World} {l : Nat} {r : Loop} {c : Code} (h : w.heap[l]? = some (.loop r)) : (Instr.endRound l (some c)).run P w = .ok (.bool false) (w.putObj l (.loop { r with state := .done, pending := some c })) := run_endRound (some c) h
/-- What a round's body must come to. -/
def rPost {X : Type} (w0 : World) (bs : X → List En) (F : X → World → Prop) (I : Nat → X → Prop) (Ix : Code → Nat → X → Prop) (E : List En) (k : Nat) : Exit → Act → World → Prop
  | .normal, _, W => ∃ x, I (k + 1) x ∧ St w0 (E ++ bs x) W ∧ F x W
  | .ret, _, W => ∃ x, Ix .ret k x ∧ St w0 (E ++ bs x) W ∧ F x W
  | .exit id, _, W => ∃ x, Ix (.exit id) k x ∧ St w0 (E ++ bs x) W ∧ F x W
  | .goto t, _, W => ∃ x, Ix (.goto t) k x ∧ St w0 (E ++ bs x) W ∧ F x W
  | _, _, _ => False
section
variable {P : Program} {g : Operand} {ps : Array Tmp} {assign body : Code} {a : Act} {w w0 : World} {gf : Nat} {lb : Array Value} {n : Nat} {encs : Nat → Array Value} {R : World → Prop} {X : Type} {bs : X → List En} {F : X → World → Prop} {I : Nat → X → Prop} {Ix : Code → Nat → X → Prop}
/-- The rounds of a loop whose record is l, beside the entries E (the record is their first). -/
theorem rounds_ok {fn : FuncId} {l : Nat} {E : List En} {rd : LoopState → Option Code → Obj} {tm : Array Value} {df : Nat}
    (hrd : rd = fun st pe => .loop { state := st, pending := pe, fn, tmps := tm, params := ps, assign, body, defers := df }) (hl : Hid (w0.heap.size ≤ l))
    (hps : ∀ k, k < n → (encs k).size = ps.size) (hF : ∀ x A B, F x A → Cm A B → F x B)
    (hround : ∀ r k x W, k < n → I k x → St w0 (ob l (.loop r) :: E ++ bs x) W → F x W →
      assign.wpIn (FR l) 0 P (Exit.then (fun a1 w1 => ∃ bs1 i, St w0 bs1 w1 ∧ bs1[i]? = some (ob l (.loop r)) ∧ ∀ r' w2, St w0 (bs1.set i (ob l (.loop r'))) w2 → Cm w1 w2 → body.wpIn (FR l) 0 P (rPost w0 bs F I Ix (ob l (.loop r') :: E) k) a1 w2) (fun _ _ _ => False))
        { tmps := (ps.zip (encs k)).foldl (fun t (p, v) => t.setIfInBounds p v) tm, defers := [] } W) :
    ∀ k W1, k < n → (∃ x, I k x ∧ St w0 (ob l (rd .ready none) :: E ++ bs x) W1 ∧ F x W1) →
      YieldAt Fence.wide 0 P l (encs k) W1 fun e W' => (e = .returned (.bool true) ∧ ∃ x, I (k + 1) x ∧ St w0 (ob l (rd .ready none) :: E ++ bs x) W' ∧ F x W') ∨
        (e = .returned (.bool false) ∧ ∃ c x, Ix c k x ∧ St w0 (ob l (rd .done (some c)) :: E ++ bs x) W' ∧ F x W') := by
  subst hrd
  rintro k W1 hk ⟨x, hI, hs, hf⟩
  have hy := run_yield (P := P) (args := encs k) (hs.obj 0) (hps k hk)
  refine ⟨fn, _, assign, body, hy, roundIn_of_wpIn trivial ?_⟩
  refine wpIn_mono (hround _ k x W1 hk hI hs hf) ?_
  rintro e a1 w1 hq
  cases e with
  | normal =>
    obtain ⟨bs1, i, hs1, hi, hb⟩ := hq
    have ho := hs1.obj i hi
    refine ⟨_, run_beginRound ho rfl, ?_⟩
    refine wpIn_mono (hb _ _ (hs1.po i _ hl hi) (Cm.po _ ho rfl)) ?_
    rintro e a2 w2 hp
    cases e with
    | normal =>
      obtain ⟨x', hI', hs', hf'⟩ := hp
      have ho := hs'.obj 0
      exact ⟨_, _, er_none ho, .inl ⟨rfl, x', hI', hs'.po 0 (Obj.loop { state := .ready, pending := none, fn, tmps := tm, params := ps, assign, body, defers := df }) hl, hF _ _ _ hf' (Cm.po _ ho rfl)⟩⟩
    | ret =>
      obtain ⟨x', hI', hs', hf'⟩ := hp
      have ho := hs'.obj 0
      exact ⟨_, _, er_some ho, .inr ⟨rfl, .ret, x', hI', hs'.po 0 (Obj.loop { state := .done, pending := some (.ret), fn, tmps := tm, params := ps, assign, body, defers := df }) hl, hF _ _ _ hf' (Cm.po _ ho rfl)⟩⟩
    | exit id =>
      obtain ⟨x', hI', hs', hf'⟩ := hp
      have ho := hs'.obj 0
      exact ⟨_, _, er_some ho, .inr ⟨rfl, .exit id, x', hI', hs'.po 0 (Obj.loop { state := .done, pending := some (.exit id), fn, tmps := tm, params := ps, assign, body, defers := df }) hl, hF _ _ _ hf' (Cm.po _ ho rfl)⟩⟩
    | goto t =>
      obtain ⟨x', hI', hs', hf'⟩ := hp
      have ho := hs'.obj 0
      exact ⟨_, _, er_some ho, .inr ⟨rfl, .goto t, x', hI', hs'.po 0 (Obj.loop { state := .done, pending := some (.goto t), fn, tmps := tm, params := ps, assign, body, defers := df }) hl, hF _ _ _ hf' (Cm.po _ ho rfl)⟩⟩
    | panic c => exact hp.elim
    | outgrown => exact hp.elim
  | exit id => exact hq.elim
  | goto t => exact hq.elim
  | ret => exact hq.elim
  | panic c => exact hq.elim
  | outgrown => exact hq.elim
/-- The loop, in a function's own frame. D: the block for the rounds' deferred calls, r the loop's record (told no further). -/
theorem wp_rangeN {Q : Exit → Act → World → Prop} (I : Nat → X → Prop) (Ix : Code → Nat → X → Prop) (bs : X → List En) (F : X → World → Prop) (hit : ItN P gf lb n encs R) (x0 : X) (h0 : I 0 x0) (hs : St w0 (bs x0) w) (hf0 : F x0 w)
    (hR : ∀ x W, St w0 (bs x) W → F x W → R W) (hF : ∀ x A B, F x A → Cm A B → F x B)
    (hround : ∀ l D r d k x W, k < n → I k x → St w0 (ob l (.loop r) :: ob D d :: bs x) W → F x W →
      assign.wpIn (FR l) 0 P (Exit.then (fun a1 w1 => ∃ bs1 i, St w0 bs1 w1 ∧ bs1[i]? = some (ob l (.loop r)) ∧ ∀ r' w2, St w0 (bs1.set i (ob l (.loop r'))) w2 → Cm w1 w2 → body.wpIn (FR l) 0 P (rPost w0 bs F I Ix (ob l (.loop r') :: [ob D d]) k) a1 w2) (fun _ _ _ => False))
        { tmps := (ps.zip (encs k)).foldl (fun t (p, v) => t.setIfInBounds p v) a.tmps, defers := [] } W)
    (hdone : ∀ l D r x W, Hid (w0.heap.size ≤ D) → I n x → St w0 (ob l r :: ob D (.deferred (some [])) :: bs x) W → F x W → Q .normal { a with defers := { target := .collected D, args := #[] } :: a.defers } W)
    (hstop : ∀ l D r c k x W, k < n → Hid (w0.heap.size ≤ D) → Ix c k x → St w0 (ob l r :: ob D (.deferred (some [])) :: bs x) W → F x W → c.wp P Q { a with defers := { target := .collected D, args := #[] } :: a.defers } W)
    (hg : a.eval g = .func (.func gf) #[] lb := by rfl) (eg : ∀ args w, (callFunc gf args).run P w = .ok (.enter gf args) w := by exact fun _ _ => by kernel_rfl) (hps : ∀ k, k < n → (encs k).size = ps.size := by exact fun _ _ => rfl) :
    (Code.rangeFunc g ps assign body).wp P Q a w := by
  refine (wpIn_wide (n := 0)).1 (wpIn_rangeFunc ?_)
  intro fn _
  obtain ⟨rd, hrd⟩ : ∃ rd : LoopState → Option Code → Obj, rd = fun st pe => .loop { state := st, pending := pe, fn, tmps := a.tmps, params := ps, assign, body, defers := w.heap.size } := ⟨_, rfl⟩
  have s1 := (hs.ao (.deferred (some []))).ao (rd .ready none)
  rw [World.size_alloc] at s1
  have c1 : Cm w ((w.alloc (.deferred (some []))).alloc (rd .ready none)) := Cm.of_below (((Below.refl _ w).alloc (Nat.le_refl _) _).alloc (by simp) _)
  obtain ⟨W1, hW1⟩ : ∃ W1, (w.alloc (.deferred (some []))).alloc (rd .ready none) = W1 := ⟨_, rfl⟩
  rw [hW1] at s1 c1
  have hk := hs.k
  refine ⟨w.heap.size + 1, [{ target := .collected w.heap.size, args := #[] }], W1, { target := .fn (.func gf) lb, args := #[.func (.yield (w.heap.size + 1)) #[] #[]] }, W1, gf,
    #[.func (.yield (w.heap.size + 1)) #[] #[]] ++ lb, W1, ?_, ?_, fun _ _ => trivial, ?_, fun h => (by cases h), callsIn_wide.2 ?_⟩
  · rw [← hW1, hrd]; exact run_enterLoop_outer _ _ _ _ _
  · simp only [resolve, hg]
    simp [go_sem]
  · simp [invoke, go_sem, eg]
  · refine (hit (w.heap.size + 1)
      (fun k W => ∃ x, I k x ∧ St w0 (ob (w.heap.size + 1) (rd .ready none) :: [ob w.heap.size (.deferred (some []))] ++ bs x) W ∧ F x W)
      (fun k W => ∃ c x, Ix c k x ∧ St w0 (ob (w.heap.size + 1) (rd .done (some c)) :: [ob w.heap.size (.deferred (some []))] ++ bs x) W ∧ F x W) W1
      (fun k A B ⟨x, h1, h2, h3⟩ hb => ⟨x, h1, h2.bl hb, hF _ _ _ h3 (Cm.of_below hb)⟩)
      (fun k A B ⟨c, x, h1, h2, h3⟩ hb => ⟨c, x, h1, h2.bl hb, hF _ _ _ h3 (Cm.of_below hb)⟩)
      (fun k W ⟨x, h1, h2, h3⟩ => hR x W (h2.sub (List.sublist_append_right _ _)) h3) (fun k W ⟨c, x, h1, h2, h3⟩ => hR x W (h2.sub (List.sublist_append_right _ _)) h3)
      (rounds_ok hrd (show w0.heap.size ≤ _ by omega) hps hF fun r k x W hk hI hs hf => hround _ _ r _ k x W hk hI hs hf) ⟨x0, h0, s1, hF _ _ _ hf0 c1⟩).mono ?_
    rintro e W2 ⟨⟨v, rfl⟩, (⟨x, hI, hs2, hf2⟩ | ⟨k, hk, c, x, hI, hs2, hf2⟩)⟩
    · subst hrd
      have ho := hs2.obj 0
      exact ⟨none, _, run_endLoop ho (by simp), hdone _ _ _ x _ (show w0.heap.size ≤ w.heap.size from hs.k) hI (hs2.po 0 _ (show w0.heap.size ≤ _ by omega)) (hF _ _ _ hf2 (Cm.po _ ho rfl))⟩
    · subst hrd
      have ho := hs2.obj 0
      exact ⟨some c, _, run_endLoop ho (by simp), wpIn_wide.2 (hstop _ _ _ c k x _ hk (show w0.heap.size ≤ w.heap.size from hs.k) hI (hs2.po 0 _ (show w0.heap.size ≤ _ by omega)) (hF _ _ _ hf2 (Cm.po _ ho rfl)))⟩
/-- The loop in a round of another. -/
theorem wp_rangeR {Q : Exit → Act → World → Prop} {l0 : Nat} {r0 : Loop} {m : Nat} (i : Nat) (I : Nat → X → Prop) (Ix : Code → Nat → X → Prop) (bs : X → List En) (F : X → World → Prop) (hit : ItN P gf lb n encs R) (x0 : X) (h0 : I 0 x0) (hs : St w0 (bs x0) w) (hf0 : F x0 w)
    (hl0 : (bs x0)[i]? = some (ob l0 (.loop r0)))
    (hR : ∀ x W, St w0 (bs x) W → F x W → R W) (hF : ∀ x A B, F x A → Cm A B → F x B)
    (hround : ∀ l r k x W, k < n → I k x → St w0 (ob l (.loop r) :: bs x) W → F x W →
      assign.wpIn (FR l) 0 P (Exit.then (fun a1 w1 => ∃ bs1 i, St w0 bs1 w1 ∧ bs1[i]? = some (ob l (.loop r)) ∧ ∀ r' w2, St w0 (bs1.set i (ob l (.loop r'))) w2 → Cm w1 w2 → body.wpIn (FR l) 0 P (rPost w0 bs F I Ix [ob l (.loop r')] k) a1 w2) (fun _ _ _ => False))
        { tmps := (ps.zip (encs k)).foldl (fun t (p, v) => t.setIfInBounds p v) a.tmps, defers := [] } W)
    (hdone : ∀ l r x W, I n x → St w0 (ob l r :: bs x) W → F x W → Q .normal a W)
    (hstop : ∀ l r c k x W, k < n → Ix c k x → St w0 (ob l r :: bs x) W → F x W → c.wpIn (FR l0) m P Q a W)
    (hg : a.eval g = .func (.func gf) #[] lb := by rfl) (eg : ∀ args w, (callFunc gf args).run P w = .ok (.enter gf args) w := by exact fun _ _ => by kernel_rfl) (hps : ∀ k, k < n → (encs k).size = ps.size := by exact fun _ _ => rfl) :
    (Code.rangeFunc g ps assign body).wpIn (FR l0) m P Q a w := by
  refine wpIn_rangeFunc ?_
  intro fn _
  obtain ⟨rd, hrd⟩ : ∃ rd : LoopState → Option Code → Obj, rd = fun st pe => .loop { state := st, pending := pe, fn, tmps := a.tmps, params := ps, assign, body, defers := r0.defers } := ⟨_, rfl⟩
  have s1 := hs.ao (rd .ready none)
  have c1 : Cm w (w.alloc (rd .ready none)) := Cm.of_below ((Below.refl _ w).alloc (Nat.le_refl _) _)
  obtain ⟨W1, hW1⟩ : ∃ W1, w.alloc (rd .ready none) = W1 := ⟨_, rfl⟩
  rw [hW1] at s1 c1
  have hk := hs.k
  refine ⟨w.heap.size, [], W1, { target := .fn (.func gf) lb, args := #[.func (.yield w.heap.size) #[] #[]] }, W1, gf, #[.func (.yield w.heap.size) #[] #[]] ++ lb, W1, ?_, ?_, fun _ _ => trivial, ?_, fun h => (by cases h), CallsIn.inRound l0 (callsIn_wide.2 ?_)⟩
  · rw [← hW1, hrd]; exact run_enterLoop_inner (hs.obj i hl0) _ _ _ _ _
  · simp only [resolve, hg]
    simp [go_sem]
  · simp [invoke, go_sem, eg]
  · refine (hit w.heap.size
      (fun k W => ∃ x, I k x ∧ St w0 (ob w.heap.size (rd .ready none) :: [] ++ bs x) W ∧ F x W)
      (fun k W => ∃ c x, Ix c k x ∧ St w0 (ob w.heap.size (rd .done (some c)) :: [] ++ bs x) W ∧ F x W) W1
      (fun k A B ⟨x, h1, h2, h3⟩ hb => ⟨x, h1, h2.bl hb, hF _ _ _ h3 (Cm.of_below hb)⟩)
      (fun k A B ⟨c, x, h1, h2, h3⟩ hb => ⟨c, x, h1, h2.bl hb, hF _ _ _ h3 (Cm.of_below hb)⟩)
      (fun k W ⟨x, h1, h2, h3⟩ => hR x W (h2.sub (List.sublist_append_right _ _)) h3) (fun k W ⟨c, x, h1, h2, h3⟩ => hR x W (h2.sub (List.sublist_append_right _ _)) h3)
      (rounds_ok hrd (show w0.heap.size ≤ _ by omega) hps hF fun r k x W hk hI hs hf => hround _ r k x W hk hI hs hf) ⟨x0, h0, s1, hF _ _ _ hf0 c1⟩).mono ?_
    rintro e W2 ⟨⟨v, rfl⟩, (⟨x, hI, hs2, hf2⟩ | ⟨k, hk, c, x, hI, hs2, hf2⟩)⟩
    · subst hrd
      have ho := hs2.obj 0
      exact ⟨none, _, run_endLoop ho (by simp), hdone _ _ x _ hI (hs2.po 0 _ (show w0.heap.size ≤ _ from hs.k)) (hF _ _ _ hf2 (Cm.po _ ho rfl))⟩
    · subst hrd
      have ho := hs2.obj 0
      exact ⟨some c, _, run_endLoop ho (by simp), hstop _ _ c k x _ hk hI (hs2.po 0 _ (show w0.heap.size ≤ _ from hs.k)) (hF _ _ _ hf2 (Cm.po _ ho rfl))⟩
end
/-- A function whose body holds such a loop. -/
theorem calls_of_marks {P : Program} {f : FuncId} {fn : Func} {c : Code} {args : Array Value} {w : World} {R : Ending → World → Prop} (hf : P.funcs[f]? = some fn) (hb : fn.body = some c)
    (h : c.wp P (bodyPostM Fence.wide 0 P fn R) { tmps := args ++ Array.replicate (fn.ntmps - args.size) undef, defers := [] } w) : Calls P f args w R :=
  (callsIn_wide (n := 0)).1 (callsIn_of_wp_marks hf hb trivial (wpIn_wide.2 h))
theorem ret_mark {P : Program} {fn : Func} {R : Ending → World → Prop} {tmps : Array Value} {w : World} {D : Nat} (hD : w.heap[D]? = some (.deferred (some []))) (h : ∀ w2, w.putObj D (.deferred none) = w2 → ∃ v, (results fn tmps).run P w2 = .ok v w2 ∧ R (.returned v) w2) :
    LeavesInM Fence.wide 0 P fn tmps R [{ target := .collected D, args := #[] }] .returning w :=
  ⟨by simp, .inl ⟨_, _, rfl, run_takeDeferred hD, h _ rfl⟩⟩
theorem retM {P : Program} {fn : Func} {R : Ending → World → Prop} {a : Act} {w : World} {v : Value} (hr : (results fn a.tmps).run P w = .ok v w) (hd : a.defers = []) (hR : R (.returned v) w) : bodyPostM Fence.wide 0 P fn R .ret a w := by
  show LeavesInM Fence.wide 0 P fn a.tmps R a.defers .returning w
  rw [hd]; exact ⟨v, hr, hR⟩
end Go.Proofs.YtjfjlloibmebeaaGreat


/- Calls of yield; gmat.beside's iterators. -/
namespace Go.Proofs.YtjfjlloibmebeaaGreat
open Go Go.RowKit Dig
set_option linter.unusedVariables false
section
variable {P : Program} {l : List Oper} {o : Oper} {a : Act} {w : World} {Q : Act → World → Prop} {k : Nat} {rest : List Nat} {ly : Nat} {args : Array Value} {Gs : List (World → Prop)} {bad : List (Nat × Nat)}
theorem Calm.yield {next : Value → World → Prop} (h : YieldAt Fence.wide 0 P ly args w fun e w' => ∃ v, e = .returned v ∧ next v w') (ho : ∀ w, (execOp a.eval o).run P w = (Instr.yield ly args).run P w) : Calm P o a w next := by
  obtain ⟨fn, tmps, asg, bd, hy, hR⟩ := h
  unfold Calm
  rw [ho, hy]; exact hR
theorem sqY {a' : Value → Act} (h : YieldAt Fence.wide 0 P ly args w fun e w' => ∃ v, e = .returned v ∧ wpSq P l Q rest (a' v) w') (ho : ∀ w, (execOp a.eval o).run P w = (Instr.yield ly args).run P w) (hi : nthO l k = some o := by rfl) (hw : Region.wanted o (yielded l.toArray a.tmps) = true := by kernel_rfl) (hp : ∀ v', a.put o.dst v' = a' v' := by intro v'; unfold Act.put; simp only [List.setIfInBounds_toArray, List.set_cons_succ, List.set_cons_zero]; rfl) : wpSq P l Q (k :: rest) a w :=
  ⟨o, hi, by rw [if_pos hw]; exact Calm.yield (h.mono fun e w' ⟨v, h1, h2⟩ => ⟨v, h1, by rw [hp]; exact h2⟩) ho⟩
theorem tlY {a' : Value → Act} (h : YieldAt Fence.wide 0 P ly args w fun e w' => ∃ v, e = .returned v ∧ keepL bad k 0 Gs w' ∧ wpTail P l Gs bad Q rest (a' v) w') (ho : ∀ w, (execOp a.eval o).run P w = (Instr.yield ly args).run P w) (hi : nthO l k = some o := by rfl) (hw : Region.wanted o (yielded l.toArray a.tmps) = true := by kernel_rfl) (hp : ∀ v', a.put o.dst v' = a' v' := by intro v'; unfold Act.put; simp only [List.setIfInBounds_toArray, List.set_cons_succ, List.set_cons_zero]; rfl) : wpTail P l Gs bad Q (k :: rest) a w :=
  ⟨o, hi, by rw [if_pos hw]; exact Calm.yield (h.mono fun e w' ⟨v, h1, h2, h3⟩ => ⟨v, h1, .of_l h2, by rw [hp]; exact h3⟩) ho⟩
/-- What only reads keeps all. -/
theorem tlP (h : Stp P o a w bot (fun w' => w' = w) (wpTail P l Gs bad Q rest)) (hi : nthO l k = some o := by rfl) (hw : Region.wanted o (yielded l.toArray a.tmps) = true := by kernel_rfl) : wpTail P l Gs bad Q (k :: rest) a w := by
  refine ⟨o, hi, ?_⟩
  rw [if_pos hw]
  have h := h (fun a' w' => a'.defers = a.defers ∧ w' = w ∧ wpTail P l Gs bad Q rest a' w') (fun a' w' h1 h2 h3 => ⟨h1, h2, h3⟩)
  unfold Oper.wp at h
  unfold Calm
  generalize (execOp a.eval o).run P w = r at *
  have hk : ∀ w', w' = w → Keeps Gs bad k w w' := fun w' e => by subst e; exact Keeps.refl _ _ _ _
  cases r with
  | ok n w2 =>
    cases n <;> simp only [Oper.upon] at h ⊢
    case value => exact ⟨hk _ h.2.1, h.2.2⟩
    case skip => exact ⟨hk _ h.2.1, h.2.2⟩
    case defer =>
      have h1 := h.1
      unfold Act.put at h1
      split at h1 <;> simp at h1
    case enter =>
      refine h.mono fun e w'' he => ?_
      cases e with
      | returned v => exact ⟨v, rfl, hk _ he.2.1, he.2.2⟩
      | panicked c => exact he.elim
      | outgrown => obtain ⟨_, _, hf⟩ := he; exact hf.elim
    case row => exact Rows.mono h fun v w'' he => ⟨hk _ he.2.1, he.2.2⟩
  | halt x w2 => cases x <;> simp only [Oper.upon, bot] at h
end
/-- A cell of a block that is read. -/
def cg (cur : Array Value) (j : Nat) : Value := (cur[j]?).getD undef
theorem cg_eq {cur : Array Value} {j : Nat} {v : Value} (h : cur[j]? = some v) : cg cur j = v := by rw [cg, h]; rfl
def enG (cur : Array Value) (off i : Nat) : Value := .agg #[cg cur (off + i * 4), cg cur (off + i * 4 + 1), cg cur (off + i * 4 + 2), cg cur (off + i * 4 + 3)]
def IsG (cur : Array Value) (off n : Nat) : Prop := ∀ i, i < n → ∃ n1 o1 k1 c1 n2 o2 k2 c2, cur[off + i * 4]? = some (.bool n1) ∧ cur[off + i * 4 + 1]? = some (.slice o1 k1 c1) ∧ cur[off + i * 4 + 2]? = some (.bool n2) ∧ cur[off + i * 4 + 3]? = some (.slice o2 k2 c2)
def IsS (cur : Array Value) (off n : Nat) : Prop := ∀ i, i < n → ∃ o k c, cur[off + i]? = some (.slice o k c)
section
variable {p1 p2 n m c1 c2 g1 g2 off1 off2 : Nat} {cur1 cur2 : Array Value} {t1 t2 t3 t4 : TypeId} {fz1 fz2 : Nat × Nat}
set_option maxHeartbeats 4000000 in
set_option maxRecDepth 20000 in
theorem besideGS (hn : 0 < n) (hl : n ≤ 1000000000) (hnm : n ≤ m) (i1 : IsG cur1 off1 n) (i2 : IsS cur2 off2 n) :
    ItN Tryz.prog 227 #[.pointer (some ⟨p1, 0, none⟩), .pointer (some ⟨p2, 0, none⟩)] n (fun i => #[enG cur1 off1 i, cg cur2 (off2 + i)])
      fun W => Bs W p1 #[.slice (some ⟨g1, off1, none⟩) n c1] 51 ∧ Bs W p2 #[.slice (some ⟨g2, off2, none⟩) m c2] 22 ∧ Bs W g1 cur1 t1 fz1 ∧ Bs W g2 cur2 t2 fz2 := by
  intro l J Jx w hJ hJx hR hRx hY h0
  show Calls _ _ #[.func (.yield l) #[] #[], .pointer (some ⟨p1, 0, none⟩), .pointer (some ⟨p2, 0, none⟩)] w _
  obtain ⟨x1, x2, y1, y2⟩ := hR _ _ h0
  have HY := hide hY
  have HR := hide hR
  have HX := hide hRx
  have I1 := hide i1
  have I2 := hide i2
  have HJ := hide hJ
  clear hY hR hRx i1 i2 hJ
  go_enter Tryz.func227, Tryz.ntmps227
  have hs := St.nil w
  have lt_ba := x1.lt
  have x1z := x1
  have lt_bb := x2.lt
  have x2z := x2
  refine wp_seq_k ?_
  intro K1 hK1
  refine rg [0, 1, 2] ?_
  refine sq ?_
  refine .r1 x1.f1 ?_
  refine sq ?_
  refine .r0 ?_
  refine sq ?_
  refine .mv ?_
  apply wpSq_end
  refine hK1 _ _ ?_
  refine wp_block ?_
  have hb := hs.b
  have hd1 := hs.2.1
  go_loopg [8] n (fun kk s8 wr => ∃ i : Nat, s8 = .int .i64 (i : Int) ∧ i + kk = n ∧ J i wr)
  case atStart => exact ⟨0, rfl, by omega, HJ.out _ _ _ h0 hb⟩
  case round =>
  clear x1 x2 hb hs
  obtain ⟨i, rfl, hik, hJi⟩ := hrel
  have hs := St.nil wr
  by_cases hi : i < n
  · obtain ⟨x1, x2, y1, y2⟩ := HR.out _ _ hJi
    have lt_ba := x1.lt
    have lt_bb := x2.lt
    have lt_kA := y1.lt
    have lt_kB := y2.lt
    obtain ⟨n1, o1, k1, q1, n2, o2, k2, q2, e1, e2, e3, e4⟩ := I1.out i hi
    obtain ⟨o3, k3, q3, e5⟩ := I2.out i hi
    have HYi := hide (show ∀ W1, J i W1 → _ from fun W1 h => HY.out i W1 hi h)
    simp only [enG, cg_eq e1, cg_eq e2, cg_eq e3, cg_eq e4, cg_eq e5] at HYi
    have hi2 : i < m := by omega
    refine wp_seq_k ?_
    intro K2 hK2
    refine rg [0] ?_
    refine sq ?_
    refine .r0 ?_
    apply wpSq_end
    refine hK2 _ _ ?_
    refine wp_seq_k ?_
    intro K3 hK3
    refine ct ?_
    refine wp_skip ?_
    refine hK3 _ _ ?_
    refine wp_seq_k ?_
    intro K4 hK4
    refine wp_block ?_
    refine wp_seq_k ?_
    intro K5 hK5
    refine rg [0, 1, 2, 3, 4, 5] ?_
    refine sq ?_
    refine .mv ?_
    refine sq ?_
    refine .r0 ?_
    refine sq ?_
    refine .r4 ⟨y1.cell _ e1, y1.cell _ e2, y1.cell _ e3, y1.cell _ e4⟩ ?_
    refine sq ?_
    refine .al hs ?_; clear hs; intro p_b1 w_2 hs n2 kb_b1
    replace x1 := x1.bl n2; replace x2 := x2.bl n2; replace y1 := y1.bl n2; replace y2 := y2.bl n2
    refine sq ?_
    refine .mv ?_
    refine sq ?_
    refine .s4 hs.g0 (fun _ => hs.u0 kb_b1) ?_; clear hs; intro w_3 hs hd3 ho3
    replace x1 := x1.frame ho3 (Nat.ne_of_lt (Nat.lt_of_lt_of_le lt_ba kb_b1)); replace x2 := x2.frame ho3 (Nat.ne_of_lt (Nat.lt_of_lt_of_le lt_bb kb_b1)); replace y1 := y1.frame ho3 (Nat.ne_of_lt (Nat.lt_of_lt_of_le lt_kA kb_b1)); replace y2 := y2.frame ho3 (Nat.ne_of_lt (Nat.lt_of_lt_of_le lt_kB kb_b1))
    apply wpSq_end
    refine hK5 _ _ ?_
    refine wp_seq_k ?_
    intro K6 hK6
    refine wp_region_f4 [(0, false), (1, false), (2, false), (3, false), (4, false), (5, false)] [6, 7] [] (fun _ => default) [99, 0, 1, 99, 99, 2, 99, 99] [(6, 0)] (.c hs.g0 (.c x2 (.c y2 .n))) fn fun w_4 n4 => ?_
    replace x1 := x1.bl n4; replace x2 := x2.bl n4; replace y1 := y1.bl n4; replace y2 := y2.bl n4; replace hs := hs.bl n4
    refine fmv ?_
    refine f4 ?_
    refine f1 ?_
    refine fmv ?_
    refine f0 ?_
    apply wpFl_ld rfl rfl; (case h1 => intro w' hC K hK; have c0 := Bs.cell hC ((off2 + i)) e5; go_big_op; exact hK); iterate 4 kernel_rfl
    refine e0 hs ?_; clear hs; intro w_5 hs n5
    replace x1 := x1.bl n5; replace x2 := x2.bl n5; replace y1 := y1.bl n5; replace y2 := y2.bl n5
    have hb := hs.b
    refine tlY (YieldAt.mono ((HYi.out _ (HJ.out _ _ _ hJi hb))) fun e w_6 hY => ?_) (fun _ => by kernel_rfl)
    clear x1 x2 y1 y2 hb hs
    have hs := St.nil w_6
    rcases hY with ⟨rfl, hJ1⟩ | ⟨rfl, hx⟩
    · obtain ⟨x1, x2, y1, y2⟩ := HR.out _ _ hJ1
      refine ⟨_, rfl, (And.intro True.intro (And.intro x2 (And.intro y2 True.intro))), ?_⟩
      refine tlP ?_
      refine .r0 ?_ (e := rfl)
      apply wpTail_end
      refine hK6 _ _ ?_
      refine cf ?_
      refine wp_skip ?_
      refine hK4 _ _ ?_
      refine rg [0, 1] ?_
      refine sq ?_
      refine .r0 ?_
      refine sq ?_
      refine .mv ?_
      apply wpSq_end
      have hb := hs.b
      refine ‹∀ (a' : Act) (w' : World), Handed _ _ a' w' → _› _ _ ?_
      go_roundg (gk - 1)
      case rel => exact ⟨i + 1, by rfl, by omega, HJ.out _ _ _ hJ1 hb⟩
      case measure => omega
    · obtain ⟨x1, x2, y1, y2⟩ := HX.out _ _ hx
      refine ⟨_, rfl, (And.intro True.intro (And.intro x2 (And.intro y2 True.intro))), ?_⟩
      refine tlP ?_
      refine .r0 ?_ (e := rfl)
      apply wpTail_end
      refine hK6 _ _ ?_
      refine ct ?_
      refine wp_ret ?_
      try dsimp only [Exit.then, Exit.inBlock]
      refine bodyPost_ret (results_none rfl _ _ _) rfl ?_
      have hb := hs.b
      exact ⟨⟨_, rfl⟩, .inr ⟨i, hi, hJx _ _ _ hx hb⟩⟩
  · obtain rfl : n = i := by omega
    have HX := hide hi
    refine wp_seq_k ?_
    intro K2 hK2
    refine rg [0] ?_
    refine sq ?_
    refine .r0 ?_
    apply wpSq_end
    refine hK2 _ _ ?_
    refine wp_seq_k ?_
    intro K3 hK3
    refine cf ?_
    refine wp_exit ?_
    try simp only [Exit.then, Exit.inBlock, if_true]
    refine bodyPost_end (results_none rfl _ _ _) rfl ?_
    have hb := hs.b
    exact ⟨⟨_, rfl⟩, .inl (HJ.out _ _ _ hJi hb)⟩
set_option maxHeartbeats 4000000 in
set_option maxRecDepth 20000 in
theorem besideGG (hn : 0 < n) (hl : n ≤ 1000000000) (hnm : n ≤ m) (i1 : IsG cur1 off1 n) (i2 : IsG cur2 off2 n) :
    ItN Tryz.prog 186 #[.pointer (some ⟨p1, 0, none⟩), .pointer (some ⟨p2, 0, none⟩)] n (fun i => #[enG cur1 off1 i, enG cur2 off2 i])
      fun W => Bs W p1 #[.slice (some ⟨g1, off1, none⟩) n c1] 51 ∧ Bs W p2 #[.slice (some ⟨g2, off2, none⟩) m c2] 51 ∧ Bs W g1 cur1 t1 fz1 ∧ Bs W g2 cur2 t2 fz2 := by
  intro l J Jx w hJ hJx hR hRx hY h0
  show Calls _ _ #[.func (.yield l) #[] #[], .pointer (some ⟨p1, 0, none⟩), .pointer (some ⟨p2, 0, none⟩)] w _
  obtain ⟨x1, x2, y1, y2⟩ := hR _ _ h0
  have HY := hide hY
  have HR := hide hR
  have HX := hide hRx
  have I1 := hide i1
  have I2 := hide i2
  have HJ := hide hJ
  clear hY hR hRx i1 i2 hJ
  go_enter Tryz.func186, Tryz.ntmps186
  have hs := St.nil w
  have lt_ba := x1.lt
  have x1z := x1
  have lt_bb := x2.lt
  have x2z := x2
  refine wp_seq_k ?_
  intro K1 hK1
  refine rg [0, 1, 2] ?_
  refine sq ?_
  refine .r1 x1.f1 ?_
  refine sq ?_
  refine .r0 ?_
  refine sq ?_
  refine .mv ?_
  apply wpSq_end
  refine hK1 _ _ ?_
  refine wp_block ?_
  have hb := hs.b
  have hd1 := hs.2.1
  go_loopg [8] n (fun kk s8 wr => ∃ i : Nat, s8 = .int .i64 (i : Int) ∧ i + kk = n ∧ J i wr)
  case atStart => exact ⟨0, rfl, by omega, HJ.out _ _ _ h0 hb⟩
  case round =>
  clear x1 x2 hb hs
  obtain ⟨i, rfl, hik, hJi⟩ := hrel
  have hs := St.nil wr
  by_cases hi : i < n
  · obtain ⟨x1, x2, y1, y2⟩ := HR.out _ _ hJi
    have lt_ba := x1.lt
    have lt_bb := x2.lt
    have lt_kA := y1.lt
    have lt_kB := y2.lt
    obtain ⟨n1, o1, k1, q1, n2, o2, k2, q2, e1, e2, e3, e4⟩ := I1.out i hi
    obtain ⟨n3, o3, k3, q3, n4, o4, k4, q4, e5, e6, e7, e8⟩ := I2.out i hi
    have HYi := hide (show ∀ W1, J i W1 → _ from fun W1 h => HY.out i W1 hi h)
    simp only [enG, cg_eq e1, cg_eq e2, cg_eq e3, cg_eq e4, cg_eq e5, cg_eq e6, cg_eq e7, cg_eq e8] at HYi
    have hi2 : i < m := by omega
    refine wp_seq_k ?_
    intro K2 hK2
    refine rg [0] ?_
    refine sq ?_
    refine .r0 ?_
    apply wpSq_end
    refine hK2 _ _ ?_
    refine wp_seq_k ?_
    intro K3 hK3
    refine ct ?_
    refine wp_skip ?_
    refine hK3 _ _ ?_
    refine wp_seq_k ?_
    intro K4 hK4
    refine wp_block ?_
    refine wp_seq_k ?_
    intro K5 hK5
    refine rg [0, 1, 2, 3, 4, 5] ?_
    refine sq ?_
    refine .mv ?_
    refine sq ?_
    refine .r0 ?_
    refine sq ?_
    refine .r4 ⟨y1.cell _ e1, y1.cell _ e2, y1.cell _ e3, y1.cell _ e4⟩ ?_
    refine sq ?_
    refine .al hs ?_; clear hs; intro p_b1 w_2 hs n2 kb_b1
    replace x1 := x1.bl n2; replace x2 := x2.bl n2; replace y1 := y1.bl n2; replace y2 := y2.bl n2
    refine sq ?_
    refine .mv ?_
    refine sq ?_
    refine .s4 hs.g0 (fun _ => hs.u0 kb_b1) ?_; clear hs; intro w_3 hs hd3 ho3
    replace x1 := x1.frame ho3 (Nat.ne_of_lt (Nat.lt_of_lt_of_le lt_ba kb_b1)); replace x2 := x2.frame ho3 (Nat.ne_of_lt (Nat.lt_of_lt_of_le lt_bb kb_b1)); replace y1 := y1.frame ho3 (Nat.ne_of_lt (Nat.lt_of_lt_of_le lt_kA kb_b1)); replace y2 := y2.frame ho3 (Nat.ne_of_lt (Nat.lt_of_lt_of_le lt_kB kb_b1))
    apply wpSq_end
    refine hK5 _ _ ?_
    refine wp_seq_k ?_
    intro K6 hK6
    refine wp_region_f4 [(0, false), (1, false), (2, false), (3, false), (4, false), (5, false)] [6, 7] [] (fun _ => default) [99, 0, 1, 99, 99, 2, 99, 99] [(6, 0)] (.c hs.g0 (.c x2 (.c y2 .n))) fn fun w_4 n4 => ?_
    replace x1 := x1.bl n4; replace x2 := x2.bl n4; replace y1 := y1.bl n4; replace y2 := y2.bl n4; replace hs := hs.bl n4
    refine fmv ?_
    refine f4 ?_
    refine f1 ?_
    refine fmv ?_
    refine f0 ?_
    apply wpFl_ld rfl rfl; (case h1 => intro w' hC K hK; have c0 := Bs.cell hC ((off2 + i * 4)) e5; have c1 := Bs.cell hC ((off2 + i * 4) + 1) e6; have c2 := Bs.cell hC ((off2 + i * 4) + 2) e7; have c3 := Bs.cell hC ((off2 + i * 4) + 3) e8; go_big_op; exact hK); iterate 4 kernel_rfl
    refine e0 hs ?_; clear hs; intro w_5 hs n5
    replace x1 := x1.bl n5; replace x2 := x2.bl n5; replace y1 := y1.bl n5; replace y2 := y2.bl n5
    have hb := hs.b
    refine tlY (YieldAt.mono ((HYi.out _ (HJ.out _ _ _ hJi hb))) fun e w_6 hY => ?_) (fun _ => by kernel_rfl)
    clear x1 x2 y1 y2 hb hs
    have hs := St.nil w_6
    rcases hY with ⟨rfl, hJ1⟩ | ⟨rfl, hx⟩
    · obtain ⟨x1, x2, y1, y2⟩ := HR.out _ _ hJ1
      refine ⟨_, rfl, (And.intro True.intro (And.intro x2 (And.intro y2 True.intro))), ?_⟩
      refine tlP ?_
      refine .r0 ?_ (e := rfl)
      apply wpTail_end
      refine hK6 _ _ ?_
      refine cf ?_
      refine wp_skip ?_
      refine hK4 _ _ ?_
      refine rg [0, 1] ?_
      refine sq ?_
      refine .r0 ?_
      refine sq ?_
      refine .mv ?_
      apply wpSq_end
      have hb := hs.b
      refine ‹∀ (a' : Act) (w' : World), Handed _ _ a' w' → _› _ _ ?_
      go_roundg (gk - 1)
      case rel => exact ⟨i + 1, by rfl, by omega, HJ.out _ _ _ hJ1 hb⟩
      case measure => omega
    · obtain ⟨x1, x2, y1, y2⟩ := HX.out _ _ hx
      refine ⟨_, rfl, (And.intro True.intro (And.intro x2 (And.intro y2 True.intro))), ?_⟩
      refine tlP ?_
      refine .r0 ?_ (e := rfl)
      apply wpTail_end
      refine hK6 _ _ ?_
      refine ct ?_
      refine wp_ret ?_
      try dsimp only [Exit.then, Exit.inBlock]
      refine bodyPost_ret (results_none rfl _ _ _) rfl ?_
      have hb := hs.b
      exact ⟨⟨_, rfl⟩, .inr ⟨i, hi, hJx _ _ _ hx hb⟩⟩
  · obtain rfl : n = i := by omega
    have HX := hide hi
    refine wp_seq_k ?_
    intro K2 hK2
    refine rg [0] ?_
    refine sq ?_
    refine .r0 ?_
    apply wpSq_end
    refine hK2 _ _ ?_
    refine wp_seq_k ?_
    intro K3 hK3
    refine cf ?_
    refine wp_exit ?_
    try simp only [Exit.then, Exit.inBlock, if_true]
    refine bodyPost_end (results_none rfl _ _ _) rfl ?_
    have hb := hs.b
    exact ⟨⟨_, rfl⟩, .inl (HJ.out _ _ _ hJi hb)⟩
set_option maxHeartbeats 4000000 in
set_option maxRecDepth 20000 in
theorem besideSS (hn : 0 < n) (hl : n ≤ 1000000000) (hnm : n ≤ m) (i1 : IsS cur1 off1 n) (i2 : IsS cur2 off2 n) :
    ItN Tryz.prog 185 #[.pointer (some ⟨p1, 0, none⟩), .pointer (some ⟨p2, 0, none⟩)] n (fun i => #[cg cur1 (off1 + i), cg cur2 (off2 + i)])
      fun W => Bs W p1 #[.slice (some ⟨g1, off1, none⟩) n c1] 22 ∧ Bs W p2 #[.slice (some ⟨g2, off2, none⟩) m c2] 22 ∧ Bs W g1 cur1 t1 fz1 ∧ Bs W g2 cur2 t2 fz2 := by
  intro l J Jx w hJ hJx hR hRx hY h0
  show Calls _ _ #[.func (.yield l) #[] #[], .pointer (some ⟨p1, 0, none⟩), .pointer (some ⟨p2, 0, none⟩)] w _
  obtain ⟨x1, x2, y1, y2⟩ := hR _ _ h0
  have HY := hide hY
  have HR := hide hR
  have HX := hide hRx
  have I1 := hide i1
  have I2 := hide i2
  have HJ := hide hJ
  clear hY hR hRx i1 i2 hJ
  go_enter Tryz.func185, Tryz.ntmps185
  have hs := St.nil w
  have lt_ba := x1.lt
  have x1z := x1
  have lt_bb := x2.lt
  have x2z := x2
  refine wp_seq_k ?_
  intro K1 hK1
  refine rg [0, 1, 2] ?_
  refine sq ?_
  refine .r1 x1.f1 ?_
  refine sq ?_
  refine .r0 ?_
  refine sq ?_
  refine .mv ?_
  apply wpSq_end
  refine hK1 _ _ ?_
  refine wp_block ?_
  have hb := hs.b
  have hd1 := hs.2.1
  go_loopg [8] n (fun kk s8 wr => ∃ i : Nat, s8 = .int .i64 (i : Int) ∧ i + kk = n ∧ J i wr)
  case atStart => exact ⟨0, rfl, by omega, HJ.out _ _ _ h0 hb⟩
  case round =>
  clear x1 x2 hb hs
  obtain ⟨i, rfl, hik, hJi⟩ := hrel
  have hs := St.nil wr
  by_cases hi : i < n
  · obtain ⟨x1, x2, y1, y2⟩ := HR.out _ _ hJi
    have lt_ba := x1.lt
    have lt_bb := x2.lt
    have lt_kA := y1.lt
    have lt_kB := y2.lt
    obtain ⟨o1, k1, q1, e1⟩ := I1.out i hi
    obtain ⟨o3, k3, q3, e5⟩ := I2.out i hi
    have HYi := hide (show ∀ W1, J i W1 → _ from fun W1 h => HY.out i W1 hi h)
    simp only [cg_eq e1, cg_eq e5] at HYi
    have hi2 : i < m := by omega
    refine wp_seq_k ?_
    intro K2 hK2
    refine rg [0] ?_
    refine sq ?_
    refine .r0 ?_
    apply wpSq_end
    refine hK2 _ _ ?_
    refine wp_seq_k ?_
    intro K3 hK3
    refine ct ?_
    refine wp_skip ?_
    refine hK3 _ _ ?_
    refine wp_seq_k ?_
    intro K4 hK4
    refine wp_block ?_
    refine wp_seq_k ?_
    intro K5 hK5
    refine rg [0, 1, 2, 3, 4] ?_
    refine sq ?_
    refine .mv ?_
    refine sq ?_
    refine .r0 ?_
    refine sq ?_
    refine .r1 (y1.cell _ e1) ?_
    refine sq ?_
    refine .mv ?_
    refine sq ?_
    refine .mv ?_
    apply wpSq_end
    refine hK5 _ _ ?_
    refine wp_seq_k ?_
    intro K6 hK6
    refine rg [0, 1, 2, 3, 4, 5, 6, 7] ?_
    refine sq ?_
    refine .mv ?_
    refine sq ?_
    refine .mv ?_
    refine sq ?_
    refine .r1 x2.f1 ?_
    refine sq ?_
    refine .mv ?_
    refine sq ?_
    refine .r0 ?_
    refine sq ?_
    refine .r1 (y2.cell _ e5) ?_
    have hb := hs.b
    refine sqY (YieldAt.mono ((HYi.out _ (HJ.out _ _ _ hJi hb))) fun e w_2 hY => ?_) (fun _ => by kernel_rfl)
    clear x1 x2 y1 y2 hb hs
    have hs := St.nil w_2
    rcases hY with ⟨rfl, hJ1⟩ | ⟨rfl, hx⟩
    · obtain ⟨x1, x2, y1, y2⟩ := HR.out _ _ hJ1
      refine ⟨_, rfl, ?_⟩
      refine sq ?_
      refine .r0 ?_
      apply wpSq_end
      refine hK6 _ _ ?_
      refine cf ?_
      refine wp_skip ?_
      refine hK4 _ _ ?_
      refine rg [0, 1] ?_
      refine sq ?_
      refine .r0 ?_
      refine sq ?_
      refine .mv ?_
      apply wpSq_end
      have hb := hs.b
      refine ‹∀ (a' : Act) (w' : World), Handed _ _ a' w' → _› _ _ ?_
      go_roundg (gk - 1)
      case rel => exact ⟨i + 1, by rfl, by omega, HJ.out _ _ _ hJ1 hb⟩
      case measure => omega
    · obtain ⟨x1, x2, y1, y2⟩ := HX.out _ _ hx
      refine ⟨_, rfl, ?_⟩
      refine sq ?_
      refine .r0 ?_
      apply wpSq_end
      refine hK6 _ _ ?_
      refine ct ?_
      refine wp_ret ?_
      try dsimp only [Exit.then, Exit.inBlock]
      refine bodyPost_ret (results_none rfl _ _ _) rfl ?_
      have hb := hs.b
      exact ⟨⟨_, rfl⟩, .inr ⟨i, hi, hJx _ _ _ hx hb⟩⟩
  · obtain rfl : n = i := by omega
    have HX := hide hi
    refine wp_seq_k ?_
    intro K2 hK2
    refine rg [0] ?_
    refine sq ?_
    refine .r0 ?_
    apply wpSq_end
    refine hK2 _ _ ?_
    refine wp_seq_k ?_
    intro K3 hK3
    refine cf ?_
    refine wp_exit ?_
    try simp only [Exit.then, Exit.inBlock, if_true]
    refine bodyPost_end (results_none rfl _ _ _) rfl ?_
    have hb := hs.b
    exact ⟨⟨_, rfl⟩, .inl (HJ.out _ _ _ hJi hb)⟩
end
end Go.Proofs.YtjfjlloibmebeaaGreat


/- gmat.beside; its iterators, of no rounds too. -/
namespace Go.Proofs.YtjfjlloibmebeaaGreat
open Go Go.RowKit Dig
set_option linter.unusedVariables false
section
variable {p1 p2 n m c1 c2 g1 g2 off1 off2 : Nat} {cur1 cur2 : Array Value} {t1 t2 t3 t4 : TypeId} {fz1 fz2 : Nat × Nat} {o1 o2 : Option Addr} {w : World} {encs : Nat → Array Value}
set_option maxHeartbeats 4000000 in
set_option maxRecDepth 20000 in
theorem beside0GS : ItN Tryz.prog 227 #[.pointer (some ⟨p1, 0, none⟩), .pointer (some ⟨p2, 0, none⟩)] 0 encs fun W => Bs W p1 #[.slice o1 0 c1] 51 := by
  intro l J Jx w hJ hJx hR hRx hY h0
  show Calls _ _ #[.func (.yield l) #[] #[], .pointer (some ⟨p1, 0, none⟩), .pointer (some ⟨p2, 0, none⟩)] w _
  have x1 := hR _ _ h0
  have HJ := hide hJ
  clear hY hR hRx hJ
  go_enter Tryz.func227, Tryz.ntmps227
  have hs := St.nil w
  have lt_ba := x1.lt
  have x1z := x1
  refine wp_seq_k ?_
  intro K1 hK1
  refine rg [0, 1, 2] ?_
  refine sq ?_
  refine .r1 x1.f1 ?_
  refine sq ?_
  refine .r0 ?_
  refine sq ?_
  refine .mv ?_
  apply wpSq_end
  refine hK1 _ _ ?_
  refine wp_block ?_
  have hb := hs.b
  have hd1 := hs.2.1
  go_loopg [8] 0 (fun kk s8 wr => s8 = .int .i64 0 ∧ J 0 wr)
  case atStart => exact ⟨rfl, HJ.out _ _ _ h0 hb⟩
  case round =>
  clear x1 hb hs
  obtain ⟨rfl, hJi⟩ := hrel
  have hs := St.nil wr
  refine wp_seq_k ?_
  intro K2 hK2
  refine rg [0] ?_
  refine sq ?_
  refine .r0 ?_
  apply wpSq_end
  refine hK2 _ _ ?_
  refine wp_seq_k ?_
  intro K3 hK3
  refine cf ?_
  refine wp_exit ?_
  try simp only [Exit.then, Exit.inBlock, if_true]
  refine bodyPost_end (results_none rfl _ _ _) rfl ?_
  have hb := hs.b
  exact ⟨⟨_, rfl⟩, .inl (HJ.out _ _ _ hJi hb)⟩
set_option maxHeartbeats 4000000 in
set_option maxRecDepth 20000 in
theorem mkBesideGS : Calls Tryz.prog 174 #[.slice o1 n c1, .slice o2 m c2] w fun e w' => ∃ p1 p2, e = .returned (.func (.func 227) #[] #[.pointer (some ⟨p1, 0, none⟩), .pointer (some ⟨p2, 0, none⟩)]) ∧ Hid (w.heap.size ≤ p1) ∧ Hid (w.heap.size ≤ p2) ∧
      St w [bx p1 #[.slice o1 n c1] 51, bx p2 #[.slice o2 m c2] 22] w' ∧ Below w.heap.size w w' := by
  go_enter Tryz.func174, Tryz.ntmps174
  have hs := St.nil w
  refine wp_seq_k ?_
  intro K1 hK1
  refine rg [0, 1, 2] ?_
  refine sq ?_
  refine .al hs ?_; clear hs; intro p_b1 w_1 hs n1 kb_b1
  refine sq ?_
  refine .al hs ?_; clear hs; intro p_b2 w_2 hs n2 kb_b2
  refine sq ?_
  refine .mv ?_
  apply wpSq_end
  refine hK1 _ _ ?_
  refine wp_seq_k ?_
  intro K2 hK2
  refine rg [0, 1] ?_
  refine sq ?_
  refine .r0 ?_
  refine sq ?_
  refine .mv ?_
  apply wpSq_end
  refine hK2 _ _ ?_
  refine wp_ret ?_
  try dsimp only [Exit.then, Exit.inBlock]
  refine bodyPost_ret (v := (.func (.func 227) #[] #[(.pointer (some ⟨p_b1, 0, none⟩)), (.pointer (some ⟨p_b2, 0, none⟩))])) (by simp [results, Tryz.results174, go_sem]) rfl ?_
  exact ⟨_, _, rfl, kb_b1, kb_b2, hs.perm (List.Perm.swap _ _ _), hs.b⟩
set_option maxHeartbeats 4000000 in
set_option maxRecDepth 20000 in
theorem beside0GG : ItN Tryz.prog 186 #[.pointer (some ⟨p1, 0, none⟩), .pointer (some ⟨p2, 0, none⟩)] 0 encs fun W => Bs W p1 #[.slice o1 0 c1] 51 := by
  intro l J Jx w hJ hJx hR hRx hY h0
  show Calls _ _ #[.func (.yield l) #[] #[], .pointer (some ⟨p1, 0, none⟩), .pointer (some ⟨p2, 0, none⟩)] w _
  have x1 := hR _ _ h0
  have HJ := hide hJ
  clear hY hR hRx hJ
  go_enter Tryz.func186, Tryz.ntmps186
  have hs := St.nil w
  have lt_ba := x1.lt
  have x1z := x1
  refine wp_seq_k ?_
  intro K1 hK1
  refine rg [0, 1, 2] ?_
  refine sq ?_
  refine .r1 x1.f1 ?_
  refine sq ?_
  refine .r0 ?_
  refine sq ?_
  refine .mv ?_
  apply wpSq_end
  refine hK1 _ _ ?_
  refine wp_block ?_
  have hb := hs.b
  have hd1 := hs.2.1
  go_loopg [8] 0 (fun kk s8 wr => s8 = .int .i64 0 ∧ J 0 wr)
  case atStart => exact ⟨rfl, HJ.out _ _ _ h0 hb⟩
  case round =>
  clear x1 hb hs
  obtain ⟨rfl, hJi⟩ := hrel
  have hs := St.nil wr
  refine wp_seq_k ?_
  intro K2 hK2
  refine rg [0] ?_
  refine sq ?_
  refine .r0 ?_
  apply wpSq_end
  refine hK2 _ _ ?_
  refine wp_seq_k ?_
  intro K3 hK3
  refine cf ?_
  refine wp_exit ?_
  try simp only [Exit.then, Exit.inBlock, if_true]
  refine bodyPost_end (results_none rfl _ _ _) rfl ?_
  have hb := hs.b
  exact ⟨⟨_, rfl⟩, .inl (HJ.out _ _ _ hJi hb)⟩
set_option maxHeartbeats 4000000 in
set_option maxRecDepth 20000 in
theorem mkBesideGG : Calls Tryz.prog 116 #[.slice o1 n c1, .slice o2 m c2] w fun e w' => ∃ p1 p2, e = .returned (.func (.func 186) #[] #[.pointer (some ⟨p1, 0, none⟩), .pointer (some ⟨p2, 0, none⟩)]) ∧ Hid (w.heap.size ≤ p1) ∧ Hid (w.heap.size ≤ p2) ∧
      St w [bx p1 #[.slice o1 n c1] 51, bx p2 #[.slice o2 m c2] 51] w' ∧ Below w.heap.size w w' := by
  go_enter Tryz.func116, Tryz.ntmps116
  have hs := St.nil w
  refine wp_seq_k ?_
  intro K1 hK1
  refine rg [0, 1, 2] ?_
  refine sq ?_
  refine .al hs ?_; clear hs; intro p_b1 w_1 hs n1 kb_b1
  refine sq ?_
  refine .al hs ?_; clear hs; intro p_b2 w_2 hs n2 kb_b2
  refine sq ?_
  refine .mv ?_
  apply wpSq_end
  refine hK1 _ _ ?_
  refine wp_seq_k ?_
  intro K2 hK2
  refine rg [0, 1] ?_
  refine sq ?_
  refine .r0 ?_
  refine sq ?_
  refine .mv ?_
  apply wpSq_end
  refine hK2 _ _ ?_
  refine wp_ret ?_
  try dsimp only [Exit.then, Exit.inBlock]
  refine bodyPost_ret (v := (.func (.func 186) #[] #[(.pointer (some ⟨p_b1, 0, none⟩)), (.pointer (some ⟨p_b2, 0, none⟩))])) (by simp [results, Tryz.results116, go_sem]) rfl ?_
  exact ⟨_, _, rfl, kb_b1, kb_b2, hs.perm (List.Perm.swap _ _ _), hs.b⟩
set_option maxHeartbeats 4000000 in
set_option maxRecDepth 20000 in
theorem beside0SS : ItN Tryz.prog 185 #[.pointer (some ⟨p1, 0, none⟩), .pointer (some ⟨p2, 0, none⟩)] 0 encs fun W => Bs W p1 #[.slice o1 0 c1] 22 := by
  intro l J Jx w hJ hJx hR hRx hY h0
  show Calls _ _ #[.func (.yield l) #[] #[], .pointer (some ⟨p1, 0, none⟩), .pointer (some ⟨p2, 0, none⟩)] w _
  have x1 := hR _ _ h0
  have HJ := hide hJ
  clear hY hR hRx hJ
  go_enter Tryz.func185, Tryz.ntmps185
  have hs := St.nil w
  have lt_ba := x1.lt
  have x1z := x1
  refine wp_seq_k ?_
  intro K1 hK1
  refine rg [0, 1, 2] ?_
  refine sq ?_
  refine .r1 x1.f1 ?_
  refine sq ?_
  refine .r0 ?_
  refine sq ?_
  refine .mv ?_
  apply wpSq_end
  refine hK1 _ _ ?_
  refine wp_block ?_
  have hb := hs.b
  have hd1 := hs.2.1
  go_loopg [8] 0 (fun kk s8 wr => s8 = .int .i64 0 ∧ J 0 wr)
  case atStart => exact ⟨rfl, HJ.out _ _ _ h0 hb⟩
  case round =>
  clear x1 hb hs
  obtain ⟨rfl, hJi⟩ := hrel
  have hs := St.nil wr
  refine wp_seq_k ?_
  intro K2 hK2
  refine rg [0] ?_
  refine sq ?_
  refine .r0 ?_
  apply wpSq_end
  refine hK2 _ _ ?_
  refine wp_seq_k ?_
  intro K3 hK3
  refine cf ?_
  refine wp_exit ?_
  try simp only [Exit.then, Exit.inBlock, if_true]
  refine bodyPost_end (results_none rfl _ _ _) rfl ?_
  have hb := hs.b
  exact ⟨⟨_, rfl⟩, .inl (HJ.out _ _ _ hJi hb)⟩
set_option maxHeartbeats 4000000 in
set_option maxRecDepth 20000 in
theorem mkBesideSS : Calls Tryz.prog 115 #[.slice o1 n c1, .slice o2 m c2] w fun e w' => ∃ p1 p2, e = .returned (.func (.func 185) #[] #[.pointer (some ⟨p1, 0, none⟩), .pointer (some ⟨p2, 0, none⟩)]) ∧ Hid (w.heap.size ≤ p1) ∧ Hid (w.heap.size ≤ p2) ∧
      St w [bx p1 #[.slice o1 n c1] 22, bx p2 #[.slice o2 m c2] 22] w' ∧ Below w.heap.size w w' := by
  go_enter Tryz.func115, Tryz.ntmps115
  have hs := St.nil w
  refine wp_seq_k ?_
  intro K1 hK1
  refine rg [0, 1, 2] ?_
  refine sq ?_
  refine .al hs ?_; clear hs; intro p_b1 w_1 hs n1 kb_b1
  refine sq ?_
  refine .al hs ?_; clear hs; intro p_b2 w_2 hs n2 kb_b2
  refine sq ?_
  refine .mv ?_
  apply wpSq_end
  refine hK1 _ _ ?_
  refine wp_seq_k ?_
  intro K2 hK2
  refine rg [0, 1] ?_
  refine sq ?_
  refine .r0 ?_
  refine sq ?_
  refine .mv ?_
  apply wpSq_end
  refine hK2 _ _ ?_
  refine wp_ret ?_
  try dsimp only [Exit.then, Exit.inBlock]
  refine bodyPost_ret (v := (.func (.func 185) #[] #[(.pointer (some ⟨p_b1, 0, none⟩)), (.pointer (some ⟨p_b2, 0, none⟩))])) (by simp [results, Tryz.results115, go_sem]) rfl ?_
  exact ⟨_, _, rfl, kb_b1, kb_b2, hs.perm (List.Perm.swap _ _ _), hs.b⟩
/-- A vector's block. -/
theorem SV.blk {l : Nat} {o : Option Addr} {ps : List (Int × Int)} (h : SN l w o ps) : ∃ g off cur ty fz, (0 < ps.length → o = some ⟨g, off, none⟩ ∧ Bs w g cur ty fz) ∧ Els (RN l) w cur off ps := by
  rcases Nat.eq_zero_or_pos ps.length with h0 | h0
  · exact ⟨0, 0, #[], 0, (0, 0), fun h => absurd h (by omega), fun i hi => absurd hi (by omega)⟩
  · obtain ⟨g, off, cur, ty, fz, e, x, d⟩ := h.box h0
    exact ⟨g, off, cur, ty, fz, fun _ => ⟨e, x⟩, d⟩
theorem MV.blk {l : Nat} {o : Option Addr} {Ms : List (List (Int × Int))} (h : MN l w o Ms) : ∃ g off cur ty fz, (0 < Ms.length → o = some ⟨g, off, none⟩ ∧ Bs w g cur ty fz) ∧ Rws (RN l) w cur off Ms := by
  rcases Nat.eq_zero_or_pos Ms.length with h0 | h0
  · exact ⟨0, 0, #[], 0, (0, 0), fun h => absurd h (by omega), fun i hi => absurd hi (by omega)⟩
  · obtain ⟨g, off, cur, ty, fz, e, x, d⟩ := h.box h0
    exact ⟨g, off, cur, ty, fz, fun _ => ⟨e, x⟩, d⟩
theorem Els.isG {l off : Nat} {cur : Array Value} {ps : List (Int × Int)} (h : Els (RN l) w cur off ps) : IsG cur off ps.length := fun i hi => by
  obtain ⟨n1, o1, k1, c1, n2, o2, k2, c2, e1, e2, e3, e4, _, _⟩ := h i hi
  exact ⟨n1, o1, k1, c1, n2, o2, k2, c2, e1, e2, e3, e4⟩
theorem Rws.isS {l off : Nat} {cur : Array Value} {Ms : List (List (Int × Int))} (h : Rws (RN l) w cur off Ms) : IsS cur off Ms.length := fun i hi => by
  obtain ⟨o, c, e, _⟩ := h i hi
  exact ⟨o, _, c, e⟩
/-- Two lists side by side, of no elements too. -/
theorem itGS (hl : n ≤ 1000000000) (i1 : IsG cur1 off1 n) (i2 : IsS cur2 off2 n) (h1 : 0 < n → o1 = some ⟨g1, off1, none⟩) (h2 : 0 < n → o2 = some ⟨g2, off2, none⟩) :
    ItN Tryz.prog 227 #[.pointer (some ⟨p1, 0, none⟩), .pointer (some ⟨p2, 0, none⟩)] n (fun i => #[enG cur1 off1 i, cg cur2 (off2 + i)])
      fun W => Bs W p1 #[.slice o1 n c1] 51 ∧ Bs W p2 #[.slice o2 n c2] 22 ∧ (0 < n → Bs W g1 cur1 t1 fz1 ∧ Bs W g2 cur2 t2 fz2) := by
  rcases Nat.eq_zero_or_pos n with h0 | h0
  · subst h0
    intro l J Jx w hJ hJx hR hRx hY hI
    exact beside0GS l J Jx w hJ hJx (fun k W h => (hR k W h).1) (fun k W h => (hRx k W h).1) hY hI
  · obtain rfl := h1 h0
    obtain rfl := h2 h0
    intro l J Jx w hJ hJx hR hRx hY hI
    exact besideGS h0 hl (Nat.le_refl _) i1 i2 l J Jx w hJ hJx (fun k W h => ⟨(hR k W h).1, (hR k W h).2.1, (hR k W h).2.2 h0⟩) (fun k W h => ⟨(hRx k W h).1, (hRx k W h).2.1, (hRx k W h).2.2 h0⟩) hY hI
/-- Two lists side by side, of no elements too. -/
theorem itGG (hl : n ≤ 1000000000) (i1 : IsG cur1 off1 n) (i2 : IsG cur2 off2 n) (h1 : 0 < n → o1 = some ⟨g1, off1, none⟩) (h2 : 0 < n → o2 = some ⟨g2, off2, none⟩) :
    ItN Tryz.prog 186 #[.pointer (some ⟨p1, 0, none⟩), .pointer (some ⟨p2, 0, none⟩)] n (fun i => #[enG cur1 off1 i, enG cur2 off2 i])
      fun W => Bs W p1 #[.slice o1 n c1] 51 ∧ Bs W p2 #[.slice o2 n c2] 51 ∧ (0 < n → Bs W g1 cur1 t1 fz1 ∧ Bs W g2 cur2 t2 fz2) := by
  rcases Nat.eq_zero_or_pos n with h0 | h0
  · subst h0
    intro l J Jx w hJ hJx hR hRx hY hI
    exact beside0GG l J Jx w hJ hJx (fun k W h => (hR k W h).1) (fun k W h => (hRx k W h).1) hY hI
  · obtain rfl := h1 h0
    obtain rfl := h2 h0
    intro l J Jx w hJ hJx hR hRx hY hI
    exact besideGG h0 hl (Nat.le_refl _) i1 i2 l J Jx w hJ hJx (fun k W h => ⟨(hR k W h).1, (hR k W h).2.1, (hR k W h).2.2 h0⟩) (fun k W h => ⟨(hRx k W h).1, (hRx k W h).2.1, (hRx k W h).2.2 h0⟩) hY hI
/-- Two lists side by side, of no elements too. -/
theorem itSS (hl : n ≤ 1000000000) (i1 : IsS cur1 off1 n) (i2 : IsS cur2 off2 n) (h1 : 0 < n → o1 = some ⟨g1, off1, none⟩) (h2 : 0 < n → o2 = some ⟨g2, off2, none⟩) :
    ItN Tryz.prog 185 #[.pointer (some ⟨p1, 0, none⟩), .pointer (some ⟨p2, 0, none⟩)] n (fun i => #[cg cur1 (off1 + i), cg cur2 (off2 + i)])
      fun W => Bs W p1 #[.slice o1 n c1] 22 ∧ Bs W p2 #[.slice o2 n c2] 22 ∧ (0 < n → Bs W g1 cur1 t1 fz1 ∧ Bs W g2 cur2 t2 fz2) := by
  rcases Nat.eq_zero_or_pos n with h0 | h0
  · subst h0
    intro l J Jx w hJ hJx hR hRx hY hI
    exact beside0SS l J Jx w hJ hJx (fun k W h => (hR k W h).1) (fun k W h => (hRx k W h).1) hY hI
  · obtain rfl := h1 h0
    obtain rfl := h2 h0
    intro l J Jx w hJ hJx hR hRx hY hI
    exact besideSS h0 hl (Nat.le_refl _) i1 i2 l J Jx w hJ hJx (fun k W h => ⟨(hR k W h).1, (hR k W h).2.1, (hR k W h).2.2 h0⟩) (fun k W h => ⟨(hRx k W h).1, (hRx k W h).2.1, (hRx k W h).2.2 h0⟩) hY hI
end
end Go.Proofs.YtjfjlloibmebeaaGreat


/- gint: Turn, timesI, Canon; the reference's. -/
namespace Go.Proofs.YtjfjlloibmebeaaGreat
open Go Go.RowKit Dig
set_option linter.unusedVariables false

section
variable {w : World} {va vb : Value} {x y u v : Int} {l m k n : Nat}
end
end Go.Proofs.YtjfjlloibmebeaaGreat


/- gmat: Add, Sub, Scale, Trans, Adj, Ident, Size; copied. -/
namespace Go.Proofs.YtjfjlloibmebeaaGreat
open Go Go.RowKit Dig
set_option linter.unusedVariables false

section
variable {w : World} {l la lb i j n na nb cm ca cb pa pb pm pf pg k : Nat} {om oa ob : Option Addr} {Ms A B : List (List (Int × Int))} {va : Value} {x y u v : Int}
set_option maxHeartbeats 4000000 in
set_option maxRecDepth 20000 in
theorem gfresh_any (ha : PN w va x l y l) (hl : l ≤ 100000000) :
    Calls Tryz.prog 181 #[va] w fun e w' => ∃ r, e = .returned r ∧ PC w' r x y ∧ Below w.heap.size w w' := by
  obtain ⟨n_0a, o_0a, k_0a, c_0a, n_0b, o_0b, k_0b, c_0b, rfl, ha1, ha2⟩ := ha
  go_enter Tryz.func181, Tryz.ntmps181
  have hs := St.nil w
  refine wp_seq_k ?_
  intro K1 hK1
  refine rg [0, 1] ?_
  refine sq ?_
  refine .al hs ?_; clear hs; intro p_b1 w_1 hs n1 kb_b1
  refine sq ?_
  refine .al hs ?_; clear hs; intro p_b2 w_2 hs n2 kb_b2
  apply wpSq_end
  refine hK1 _ _ ?_
  refine wp_seq_k ?_
  intro K2 hK2
  refine rg [0, 1, 2, 3] ?_
  refine sq ?_
  refine .r4 hs.g1.f4 ?_
  refine sq ?_
  refine .r0 ?_
  refine sq ?_
  intro K hK
  have k0_2 := (kb n1).b n2
  replace ha1 := ha1.k k0_2
  replace ha2 := ha2.k k0_2
  go_big_op
  go_fit (gAdd_any (PN.mk' ha1 ha2) (PN.mk' ((zc_zero w_2).zn zlen_0) ((zc_zero w_2).zn zlen_0)) (by omega) (by omega) (by omega) (by omega) )
  rintro e w_3 ⟨_, rfl, ⟨n_ga, o_ga, k_ga, c_ga, n_gb, o_gb, k_gb, c_gb, rfl, g1, g2⟩, hb_3⟩
  replace hs := hs.bl hb_3
  have Lg1 := hide (g1.lenOf (zlen_add (ha1.len) (zlen_0)))
  have Lg2 := hide (g2.lenOf (zlen_add (ha2.len) (zlen_0)))
  rw [Int.add_zero] at g1 g2
  refine hK _ _ rfl trivial ?_
  clear hK K
  refine sq ?_
  refine .s4 hs.g0 (fun _ => hs.u0 kb_b2) ?_; clear hs; intro w_4 hs hd4 ho4
  apply wpSq_end
  refine hK2 _ _ ?_
  refine wp_ret ?_
  try dsimp only [Exit.then, Exit.inBlock]
  obtain ⟨r0_0, r0_1, r0_2, r0_3⟩ := hs.g0.f4
  refine bodyPost_ret (v := (.agg #[.bool n_ga, .slice o_ga k_ga c_ga, .bool n_gb, .slice o_gb k_gb c_gb])) (by simp [results, Tryz.results181, go_sem, r0_0, r0_1, r0_2, r0_3]) rfl ?_
  have k3_4 := ko hd4 ho4
  replace g1 := g1.k k3_4
  replace g2 := g2.k k3_4
  exact ⟨_, rfl, .mk' g1 g2, hs.b⟩
set_option maxHeartbeats 4000000 in
set_option maxRecDepth 20000 in
theorem scale1 (xa : Bs w pa #[.slice oa na ca] 23) {gn1 gn2 : Bool} {go1 go2 : Option Addr} {gk1 gk2 gc1 gc2 : Nat} (xg : Bs w pg #[.bool gn1, .slice go1 gk1 gc1, .bool gn2, .slice go2 gk2 gc2] 38) (ha : MN la w oa A)
    (hg1 : ZN w (.agg #[.bool gn1, .slice go1 gk1 gc1]) u lb) (hg2 : ZN w (.agg #[.bool gn2, .slice go2 gk2 gc2]) v lb)
    (hna : A.length = na) (hi : i < na) (hj : j < (rw_ A i).length) (hla : la ≤ 40000000) (hlb : lb ≤ 40000000) :
    Calls Tryz.prog 113 (#[.int .i64 (i : Int), .int .i64 (j : Int)] ++ #[.pointer (some ⟨pa, 0, none⟩), .pointer (some ⟨pg, 0, none⟩)]) w fun e w' => ∃ r, e = .returned r ∧ PC w' r (mP (at2 A i j) (u, v)).1 (mP (at2 A i j) (u, v)).2 ∧ Below w.heap.size w w' := by
  show Calls _ _ #[.int .i64 (i : Int), .int .i64 (j : Int), .pointer (some ⟨pa, 0, none⟩), .pointer (some ⟨pg, 0, none⟩)] w _
  obtain ⟨g, off, cur, ty, fz, g2, off2, cur2, ty2, fz2, ci, n1, o1, k1, c1, n2, o2, k2, c2, rfl, x, e, x2, e1, e2, e3, e4, z1, z2⟩ := ha.op (by omega) hj
  obtain ⟨ua, hua⟩ : ∃ ua, (rw_ A i).length = ua := ⟨_, rfl⟩
  rw [hua] at e hj
  clear ha hna hua
  generalize at2 A i j = p at *
  go_enter Tryz.func113, Tryz.ntmps113
  have hs := St.nil w
  have lt_ba := xa.lt
  have xaz := xa
  have lt_bg := xg.lt
  have xgz := xg
  have lt_kA := x.lt
  have xz := x
  have lt_kRA := x2.lt
  have x2z := x2
  refine wp_seq_k ?_
  intro K1 hK1
  refine rg [0] ?_
  refine sq ?_
  refine .al hs ?_; clear hs; intro p_b1 w_1 hs n1 kb_b1
  replace xa := xa.bl n1; replace xg := xg.bl n1; replace x := x.bl n1; replace x2 := x2.bl n1
  apply wpSq_end
  refine hK1 _ _ ?_
  refine wp_seq_k ?_
  intro K2 hK2
  refine wp_region_f4 [(0, false), (1, false), (2, false), (3, false), (4, false), (5, false), (6, false), (7, false), (8, true)] [9] [] (fun _ => default) [0, 99, 99, 1, 99, 99, 2, 3, 99, 99] [] (.c xa (.c x (.c x2 (.c xg .n)))) fn fun w_2 n2 => ?_
  replace xa := xa.bl n2; replace xg := xg.bl n2; replace x := x.bl n2; replace x2 := x2.bl n2; replace hs := hs.bl n2
  refine f1 ?_
  refine fmv ?_
  refine f0 ?_
  apply wpFl_ld rfl rfl; (case h1 => intro w' hC K hK; have c0 := Bs.cell hC ((off + i)) e; go_big_op; exact hK); iterate 4 kernel_rfl
  refine fmv ?_
  refine f0 ?_
  apply wpFl_ld rfl rfl; (case h1 => intro w' hC K hK; have c0 := Bs.cell hC ((off2 + j * 4)) e1; have c1 := Bs.cell hC ((off2 + j * 4) + 1) e2; have c2 := Bs.cell hC ((off2 + j * 4) + 2) e3; have c3 := Bs.cell hC ((off2 + j * 4) + 3) e4; go_big_op; exact hK); iterate 4 kernel_rfl
  refine f4 ?_
  refine fl fun w_3 n3 => ?_
  replace xa := xa.bl n3; replace xg := xg.bl n3; replace x := x.bl n3; replace x2 := x2.bl n3; replace hs := hs.bl n3
  intro K hK
  have k0_3 := ((kb n1).b n2).b n3
  replace z1 := z1.k k0_3
  replace z2 := z2.k k0_3
  replace hg1 := hg1.k k0_3
  replace hg2 := hg2.k k0_3
  go_big_op
  go_fit (gMul_any (PN.mk' z1 z2) (PN.mk' hg1 hg2) (by omega) (by omega) (by omega) (by omega) )
  rintro e w_4 ⟨_, rfl, ⟨n_va, o_va, k_va, c_va, n_vb, o_vb, k_vb, c_vb, rfl, v1, v2⟩, hb_4⟩
  replace xa := xa.bl hb_4; replace xg := xg.bl hb_4; replace x := x.bl hb_4; replace x2 := x2.bl hb_4; replace hs := hs.bl hb_4
  have Lv1 := hide (v1.lenOf (zlen_sub (zlen_mul (z1.len) (hg1.len)) (zlen_mul (z2.len) (hg2.len))))
  have Lv2 := hide (v2.lenOf (zlen_add (zlen_mul (z1.len) (hg2.len)) (zlen_mul (z2.len) (hg1.len))))
  refine hK _ _ rfl ⟨hb_4, (And.intro xa (And.intro x (And.intro x2 (And.intro xg trivial))))⟩ ?_
  clear hK K
  refine e0 hs ?_; clear hs; intro w_5 hs n5
  replace xa := xa.bl n5; replace xg := xg.bl n5; replace x := x.bl n5; replace x2 := x2.bl n5
  refine tl ?_
  refine .s4o hs.g0 (fun _ => hs.u0 kb_b1) ?_ (e := fun _ hs hO => (And.intro (xaz.bl hs.b) (And.intro (x.frame hO (Nat.ne_of_lt (Nat.lt_of_lt_of_le lt_kA kb_b1))) (And.intro (x2.frame hO (Nat.ne_of_lt (Nat.lt_of_lt_of_le lt_kRA kb_b1))) (And.intro (xgz.bl hs.b) True.intro))))); clear hs; intro w_6 hs hd6 ho6
  replace xa := xa.frame ho6 (Nat.ne_of_lt (Nat.lt_of_lt_of_le lt_ba kb_b1)); replace xg := xg.frame ho6 (Nat.ne_of_lt (Nat.lt_of_lt_of_le lt_bg kb_b1)); replace x := x.frame ho6 (Nat.ne_of_lt (Nat.lt_of_lt_of_le lt_kA kb_b1)); replace x2 := x2.frame ho6 (Nat.ne_of_lt (Nat.lt_of_lt_of_le lt_kRA kb_b1))
  apply wpTail_end
  refine hK2 _ _ ?_
  refine wp_ret ?_
  try dsimp only [Exit.then, Exit.inBlock]
  obtain ⟨r0_0, r0_1, r0_2, r0_3⟩ := hs.g0.f4
  refine bodyPost_ret (v := (.agg #[.bool n_va, .slice o_va k_va c_va, .bool n_vb, .slice o_vb k_vb c_vb])) (by simp [results, Tryz.results113, go_sem, r0_0, r0_1, r0_2, r0_3]) rfl ?_
  have k4_6 := (kb n5).o hd6 ho6
  replace v1 := v1.k k4_6
  replace v2 := v2.k k4_6
  exact ⟨_, rfl, .mk' v1 v2, hs.b⟩
end
end Go.Proofs.YtjfjlloibmebeaaGreat

