/- gdet: what one round of an elimination does; two rows of an own matrix in front of the state. -/
import Derived.Test.YtcoodkdalblalaaGreatDoorO7ToE4
import Derived.Scope
namespace Go.Proofs.YtcoodkdalblalaaGreatDoor
open Go Go.RowKit Dig
set_option linter.unusedVariables false
/-- From row and column k on the table holds the bordered minors of A. -/
def Agr (n W k : Nat) (A F : Nat → Nat → Int × Int) : Prop := ∀ i, i < n → ∀ j, j < W → k ≤ i → k ≤ j → F i j = Dt.D k A i j
/-- Step k is done up to row i's number j. -/
def Elm (k : Nat) (A F : Nat → Nat → Int × Int) (i j : Nat) : Nat → Nat → Int × Int := fun p q => if k < p ∧ k < q ∧ (p < i ∨ (p = i ∧ q < j)) then Dt.D (k + 1) A p q else F p q
section
variable {n W k i j : Nat} {A F : Nat → Nat → Int × Int}
theorem Elm_0 : mkM n W F = mkM n W (Elm k A F (k + 1) (k + 1)) := mkM_eq rfl rfl fun p _ q _ => by unfold Elm; rw [if_neg (by omega)]
theorem Elm_here (h : i < i + 1) : Elm k A F i j i j = F i j := by unfold Elm; rw [if_neg (by omega)]
theorem Elm_k : Elm k A F i j i k = F i k := by unfold Elm; rw [if_neg (by omega)]
theorem Elm_up {q : Nat} : Elm k A F i j k q = F k q := by unfold Elm; rw [if_neg (by omega)]
theorem Elm_step (hi : k < i) (hj : k < j) : upd (Elm k A F i j) i j (Dt.D (k + 1) A i j) = Elm k A F i (j + 1) := by
  funext p q
  unfold upd Elm
  by_cases h : p = i ∧ q = j
  · rw [if_pos h, if_pos (by omega), h.1, h.2]
  · rw [if_neg h]
    by_cases h2 : k < p ∧ k < q ∧ (p < i ∨ (p = i ∧ q < j))
    · rw [if_pos h2, if_pos (by omega)]
    · rw [if_neg h2, if_neg (by omega)]
theorem Elm_row : mkM n W (Elm k A F i W) = mkM n W (Elm k A F (i + 1) (k + 1)) := mkM_eq rfl rfl fun p _ q hq => by
  unfold Elm
  by_cases h2 : k < p ∧ k < q ∧ (p < i ∨ (p = i ∧ q < W))
  · rw [if_pos h2, if_pos (by omega)]
  · rw [if_neg h2, if_neg (by omega)]
theorem Elm_end : Agr n W (k + 1) A (Elm k A F n (k + 1)) := fun p hp q hq h1 h2 => by unfold Elm; rw [if_pos (by omega)]
/-- What is divided, and by what. -/
theorem Elm_div (h : Agr n W k A F) (hi : i < n) (hj : j < W) (hki : k < i) (hkj : k < j) (hkn : k < n) (hkW : k < W) (hp : Dt.det k A ≠ 0) :
    sP (mP (F i j) (Dt.D k A k k)) (mP (F i k) (F k j)) = mP (Dt.det k A) (Dt.D (k + 1) A i j) := by
  have h2 := Dt.step noz (k := k) (A := A) (i := i) (j := j) hp
  rw [h i hi j hj (by omega) (by omega), h i hi k hkW (by omega) (Nat.le_refl _), h k hkn j hj (Nat.le_refl _) (by omega)]
  show (Dt.D k A i j * Dt.D k A k k - Dt.D k A i k * Dt.D k A k j) = Dt.det k A * Dt.D (k + 1) A i j
  rw [h2]; grind
/-- The pivots, each the determinant of its part. -/
def pvs (A : Nat → Nat → Int × Int) (k : Nat) : List (Int × Int) := (List.range k).map fun m => Dt.det (m + 1) A
theorem pvs_succ : pvs A (k + 1) = pvs A k ++ [Dt.det (k + 1) A] := by unfold pvs; rw [List.range_succ, List.map_append]; rfl
theorem pvs_congr {B : Nat → Nat → Int × Int} (h : ∀ m, m ≤ k → Dt.det m B = Dt.det m A) : pvs A k = pvs B k := List.map_congr_left fun m hm => (h _ (by have := List.mem_range.1 hm; omega)).symm
theorem pvs_len : (pvs A k).length = k := by simp [pvs]
end
section
variable {w0 w : World} {v : Value} {n p q K : Nat} {rs a b r2 : List Rw} {bs : List En} {Ms : List (List (Int × Int))}
theorem St.rows2 (hs : St w0 (ls w0.heap.size 28 1 v n (rs.map (·.v)) :: (bs ++ rs.map (Rw.e w0.heap.size))) w) (hd : RD w rs Ms) (hpq : p < q) (hq : q < Ms.length) (hK : Ms[p].length = K) (hK2 : Ms[q].length = K) (h0 : 0 < K) :
    ∃ a gp cp xp b gq cq xq r2, rs = a ++ (⟨.slice (some ⟨gp, 0, none⟩) K cp, K, xp⟩ : Rw) :: (b ++ (⟨.slice (some ⟨gq, 0, none⟩) K cq, K, xq⟩ : Rw) :: r2) ∧ (a ++ (⟨.slice (some ⟨gp, 0, none⟩) K cp, K, xp⟩ : Rw) :: b).length = q ∧
      (rs.map (·.v))[p]? = some (.slice (some ⟨gp, 0, none⟩) K cp) ∧ (rs.map (·.v))[q]? = some (.slice (some ⟨gq, 0, none⟩) K cq) ∧ GD w xp Ms[p] ∧ GD w xq Ms[q] ∧
      St w0 (ls w0.heap.size 26 4 (.slice (some ⟨gq, 0, none⟩) K cq) K xq :: ls w0.heap.size 26 4 (.slice (some ⟨gp, 0, none⟩) K cp) K xp :: ls w0.heap.size 28 1 v n (rs.map (·.v)) :: (bs ++ (a ++ (b ++ r2)).map (Rw.e w0.heap.size))) w := by
  obtain ⟨r1, gq, cq, xq, r2, rfl, h1, h2, h3, hs⟩ := hs.row hd hq hK2 h0
  obtain ⟨a, r, b', e, h4, h5, h6⟩ := hd.at' (p := p) (by omega)
  have hb : ∃ b, r1 = a ++ r :: b := by
    rcases List.append_eq_append_iff.1 e with ⟨c, e1, e2⟩ | ⟨c, e1, e2⟩
    · exfalso; have := congrArg List.length e1; simp at this; omega
    · cases c with
      | nil => exfalso; simp at e1; have := congrArg List.length e1; omega
      | cons x t => simp only [List.cons_append, List.cons.injEq] at e2; exact ⟨t, by rw [e1, e2.1]⟩
  obtain ⟨b, rfl⟩ := hb
  obtain ⟨rv, rn, xp⟩ := r
  simp only at h5 h6
  rw [hK] at h5
  subst h5
  have hs2 := hs.perm (cs := ls w0.heap.size 26 4 (.slice (some ⟨gq, 0, none⟩) rn cq) rn xq :: Rw.e w0.heap.size ⟨rv, rn, xp⟩ :: ls w0.heap.size 28 1 v n (((a ++ (⟨rv, rn, xp⟩ : Rw) :: b) ++ (⟨.slice (some ⟨gq, 0, none⟩) rn cq, rn, xq⟩ : Rw) :: r2).map (·.v)) :: (bs ++ (a ++ (b ++ r2)).map (Rw.e w0.heap.size))) (by
    refine List.Perm.cons _ ((List.Perm.cons _ ?_).trans (List.Perm.swap _ _ _))
    rw [List.append_assoc, List.cons_append, List.map_append, List.map_cons, List.map_append (l₁ := a), ← List.append_assoc, ← List.append_assoc]
    exact List.perm_middle)
  have L : Lst w w0.heap.size 26 4 rv rn xp := hs2.1.2.1.1
  obtain ⟨o, c, rfl⟩ := L.shape
  obtain ⟨gp, cur, rfl, _, _⟩ := L.box h0
  exact ⟨a, gp, c, xp, b, gq, cq, xq, r2, by rw [List.append_assoc]; rfl, h1, by rw [List.map_append, List.map_append, List.map_cons, List.append_assoc, List.getElem?_append_right (by simp [h4])]; simp [h4], h2, h6, h3, hs2⟩
theorem St.unrows2 {x y : Value} {xp xq xq' : List Value} (hs : St w0 (ls w0.heap.size 26 4 y K xq' :: ls w0.heap.size 26 4 x K xp :: ls w0.heap.size 28 1 v n ((a ++ (⟨x, K, xp⟩ : Rw) :: (b ++ (⟨y, K, xq⟩ : Rw) :: r2)).map (·.v)) :: (bs ++ (a ++ (b ++ r2)).map (Rw.e w0.heap.size))) w) :
    St w0 (ls w0.heap.size 28 1 v n ((a ++ (⟨x, K, xp⟩ : Rw) :: (b ++ (⟨y, K, xq'⟩ : Rw) :: r2)).map (·.v)) :: (bs ++ (a ++ (⟨x, K, xp⟩ : Rw) :: (b ++ (⟨y, K, xq'⟩ : Rw) :: r2)).map (Rw.e w0.heap.size))) w := by
  have e : (a ++ (⟨x, K, xp⟩ : Rw) :: (b ++ (⟨y, K, xq⟩ : Rw) :: r2)).map (·.v) = (a ++ (⟨x, K, xp⟩ : Rw) :: (b ++ (⟨y, K, xq'⟩ : Rw) :: r2)).map (·.v) := by simp
  rw [e] at hs
  refine hs.perm ?_
  refine (List.Perm.cons _ (List.Perm.swap _ _ _)).trans ((List.Perm.swap _ _ _).trans (List.Perm.cons _ ?_))
  have h1 : (Rw.e w0.heap.size ⟨y, K, xq'⟩ :: Rw.e w0.heap.size ⟨x, K, xp⟩ :: (bs ++ (a ++ (b ++ r2)).map (Rw.e w0.heap.size))).Perm (bs ++ (a ++ (⟨x, K, xp⟩ : Rw) :: (b ++ (⟨y, K, xq'⟩ : Rw) :: r2)).map (Rw.e w0.heap.size)) := by
    refine (List.Perm.swap _ _ _).trans ?_
    refine (List.perm_middle (l₁ := bs)).symm.cons _ |>.trans ?_
    refine (List.perm_middle (l₁ := bs)).symm.trans (List.Perm.append_left _ ?_)
    rw [← List.map_cons, ← List.map_cons]
    refine List.Perm.map _ ?_
    refine List.Perm.trans ?_ (List.perm_middle (l₁ := a)).symm
    refine List.Perm.cons _ ?_
    rw [← List.append_assoc, ← List.append_assoc]
    exact (List.perm_middle (l₁ := a ++ b)).symm
  exact h1
end
/-- As Q; by a goto to a label of the scope's body: what stands behind the label, walked with one jump less. -/
def scopeQ (P : Program) (c : Code) (Q : Exit → Act → World → Prop) : Nat → Exit → Act → World → Prop
  | 0, .goto _, _, _ => False
  | n + 1, .goto l, a, w => ∃ rest, findLabel c l = some rest ∧ rest.wp P (scopeQ P c Q n) a w
  | _, e, a, w => Q e a w
theorem scopeQ_goto {P : Program} {c rest : Code} {Q : Exit → Act → World → Prop} {n l : Nat} {a : Act} {w : World} (hf : findLabel c l = some rest) (h : rest.wp P (scopeQ P c Q n) a w) : scopeQ P c Q (n + 1) (.goto l) a w := ⟨rest, hf, h⟩
theorem scopeQ_normal {P : Program} {c : Code} {Q : Exit → Act → World → Prop} {n : Nat} {a : Act} {w : World} (h : Q .normal a w) : scopeQ P c Q n .normal a w := by cases n <;> exact h
theorem scopeQ_ret {P : Program} {c : Code} {Q : Exit → Act → World → Prop} {n : Nat} {a : Act} {w : World} (h : Q .ret a w) : scopeQ P c Q n .ret a w := by cases n <;> exact h
theorem wp_scope_fwd {P : Program} {a : Act} {w : World} {Q : Exit → Act → World → Prop} {c : Code} (n : Nat) (first : c.wp P (scopeQ P c Q n) a w) : (Code.scope c).wp P Q a w := by
  intro b k cs
  have key : ∀ (n : Nat) (d : Code) (a : Act) (w : World), d.wp P (scopeQ P c Q n) a w → ∃ e a' w', Q e a' w' ∧ Arrives P (lone (b.at a (.code d :: .inScope c :: k)) cs w) b k cs e a' w' := by
    intro n
    induction n with
    | zero =>
      intro d a w h
      obtain ⟨e, a₁, w₁, hq, harr⟩ := h b (.inScope c :: k) cs
      cases e with
      | normal => exact ⟨.normal, a₁, w₁, hq, Steps.trans harr (.one step_inScope)⟩
      | exit id => exact ⟨.exit id, a₁, w₁, hq, fun k' hk => harr k' (by simp [exitTo, hk])⟩
      | goto l' => exact hq.elim
      | ret => exact ⟨_, a₁, w₁, hq, harr⟩
      | panic ch => exact ⟨_, a₁, w₁, hq, harr⟩
      | outgrown => exact ⟨_, a₁, w₁, hq, harr⟩
    | succ n ih =>
      intro d a w h
      obtain ⟨e, a₁, w₁, hq, harr⟩ := h b (.inScope c :: k) cs
      cases e with
      | normal => exact ⟨.normal, a₁, w₁, hq, Steps.trans harr (.one step_inScope)⟩
      | exit id => exact ⟨.exit id, a₁, w₁, hq, fun k' hk => harr k' (by simp [exitTo, hk])⟩
      | goto l' =>
        obtain ⟨rest, hf, hr⟩ := hq
        have hg : gotoIn l' (.inScope c :: k) = some (.code rest :: .inScope c :: k) := by simp [gotoIn, hf]
        obtain ⟨e₂, a₂, w₂, hq₂, harr₂⟩ := ih rest a₁ w₁ hr
        exact ⟨e₂, a₂, w₂, hq₂, .of_steps (harr _ hg) harr₂⟩
      | ret => exact ⟨_, a₁, w₁, hq, harr⟩
      | panic ch => exact ⟨_, a₁, w₁, hq, harr⟩
      | outgrown => exact ⟨_, a₁, w₁, hq, harr⟩
  obtain ⟨e, a₁, w₁, hq, harr⟩ := key n c a w first
  cases e with
  | normal => exact ⟨.normal, a₁, w₁, hq, Steps.trans (.one step_scope) harr⟩
  | exit id => exact ⟨.exit id, a₁, w₁, hq, fun k' hk => .head step_scope (harr k' hk)⟩
  | goto l' => exact ⟨.goto l', a₁, w₁, hq, fun k' hk => .head step_scope (harr k' hk)⟩
  | ret => exact ⟨_, a₁, w₁, hq, .of_steps (.one step_scope) harr⟩
  | panic ch => exact ⟨_, a₁, w₁, hq, .of_steps (.one step_scope) harr⟩
  | outgrown => exact ⟨_, a₁, w₁, hq, .of_steps (.one step_scope) harr⟩
/-- The same with what stands at the scope's ways out behind a name: a goto by 'hg', a return by 'hr', its end by 'hn'. -/
theorem wp_scope_k {P : Program} {a : Act} {w : World} {Q : Exit → Act → World → Prop} {c : Code} (n : Nat)
    (first : ∀ S : Nat → Exit → Act → World → Prop, (∀ m a w, Q .ret a w → S m .ret a w) → (∀ m a w, Q .normal a w → S m .normal a w) →
      (∀ m l rest a w, findLabel c l = some rest → rest.wp P (S m) a w → S (m + 1) (.goto l) a w) → c.wp P (S n) a w) : (Code.scope c).wp P Q a w :=
  wp_scope_fwd n (first (scopeQ P c Q) (fun _ _ _ h => scopeQ_ret h) (fun _ _ _ h => scopeQ_normal h) fun _ _ _ _ _ hf h => scopeQ_goto hf h)
def EntP (f : Nat) (bnd caps : Array Value) : Prop := ∀ v w1, Sem.run Tryz.prog (callFunc f (bnd.push v ++ caps)) w1 = .ok (.enter f (bnd.push v ++ caps)) w1
/-- es: what the closure reads besides. -/
def Has (es bs : List En) : Prop := ∃ bs', bs.Perm (es ++ bs')
theorem Has.nil {bs : List En} : Has [] bs := ⟨bs, List.Perm.refl _⟩
theorem Has.cons {es bs : List En} {e : En} (h : Has es bs) : Has es (e :: bs) := by
  obtain ⟨bs', hp⟩ := h
  exact ⟨e :: bs', (hp.cons _).trans List.perm_middle.symm⟩
/-- A closure that brings the next pivot of a table: Q is kept from step to step, Fin tells that there is none. -/
def PivS (w0 : World) (f : Nat) (bnd caps : Array Value) (o : Option Addr) (n c pt h m W : Nat) (Q Fin : Nat → (Nat → Nat → Int × Int) → Bool → Prop) (es : List En := []) : Prop :=
  ∀ (k : Nat) (w : World) (A F : Nat → Nat → Int × Int) (odd : Bool) (rs : List Rw) (bs : List En), Has es bs → Q k A odd → Agr n W k A F → rs.length = n → RD w rs (mkM n W F) →
    St w0 (ls w0.heap.size 28 1 (.slice o n c) n (rs.map (·.v)) :: bx pt #[.slice o n c, .int .i64 (h : Int), .int .i64 (m : Int), .bool odd] 77 :: (bs ++ rs.map (Rw.e w0.heap.size))) w →
    Calls Tryz.prog f (bnd.push (.int .i64 (k : Int)) ++ caps) w fun e w' => ∃ v fd rs' A' F' odd' p, e = .returned (.tuple #[v, .bool fd]) ∧ PC w' v p.1 p.2 ∧
      ((fd = true ∧ k < n ∧ k < W ∧ Q (k + 1) A' odd' ∧ Agr n W k A' F' ∧ p = Dt.D k A' k k ∧ Dt.det k A' ≠ 0 ∧ ∀ m, m ≤ k → Dt.det m A' = Dt.det m A) ∨ (fd = false ∧ Fin k A odd ∧ A' = A ∧ F' = F ∧ odd' = odd)) ∧ rs'.length = n ∧ RD w' rs' (mkM n W F') ∧
      St w0 (ls w0.heap.size 28 1 (.slice o n c) n (rs'.map (·.v)) :: bx pt #[.slice o n c, .int .i64 (h : Int), .int .i64 (m : Int), .bool odd'] 77 :: (bs ++ rs'.map (Rw.e w0.heap.size))) w' ∧ Kp w w'
theorem perm_in {α : Type} {ds hd bs rows : List α} : (ds ++ (hd ++ (bs ++ rows))).Perm (hd ++ ((ds ++ bs) ++ rows)) := by rw [List.append_assoc ds]; exact List.perm_append_comm_assoc ds hd (bs ++ rows)
theorem zl_sPx {p q : Int × Int} {l : Nat} (hp : zl l p) (hq : zl l q) : zl (l + 1) (sP p q) := ⟨zlen_subM hp.1 hq.1, zlen_subM hp.2 hq.2⟩
theorem Lst.capn {w : World} {B g n c sz : Nat} {ty : TypeId} {xs : List Value} (h : Lst w B ty sz (.slice (some ⟨g, 0, none⟩) n c) n xs) : n ≤ c := by
  rcases h.1.2 with ⟨e, h0⟩ | ⟨g', cap, cur, e, hb, hg, hnc, hcm, hcs, htake⟩
  · cases e
  · simp only [Value.slice.injEq, Option.some.injEq, Addr.mk.injEq, and_true, true_and] at e
    obtain ⟨rfl, rfl⟩ := e
    exact hnc
section
variable {w w0 : World} {f pt n c h m W L : Nat} {bnd caps : Array Value} {odd : Bool} {o : Option Addr} {rs : List Rw} {bs es : List En} {A F : Nat → Nat → Int × Int} {Q Fin : Nat → (Nat → Nat → Int × Int) → Bool → Prop}
set_option maxHeartbeats 8000000 in
set_option maxRecDepth 20000 in
theorem eliminate_any (hst : St w0 (ls w0.heap.size 28 1 (.slice o n c) n (rs.map (·.v)) :: bx pt #[.slice o n c, .int .i64 (h : Int), .int .i64 (m : Int), .bool odd] 77 :: (bs ++ rs.map (Rw.e w0.heap.size))) w)
    (kb_bt : Hid (w0.heap.size ≤ pt)) (hf : EntP f bnd caps) (hpv : PivS w0 f bnd caps o n c pt h m W Q Fin es) (hes : Has es bs) (hQ : Q 0 A odd) (hA : Agr n W 0 A F) (hrl : rs.length = n) (hd : RD w rs (mkM n W F)) (hn : n ≤ 1000) (hW : W ≤ 3000000)
    (hB : ∀ k A odd, Q k A odd → ∀ m, m ≤ k → ∀ i, i < n → ∀ j, j < W → zl L (Dt.D m A i j)) (hL : L ≤ 3300000) :
    Calls Tryz.prog 39 #[.slice o n c, .func (.func f) bnd caps, .func (.func 42) #[] #[], .func (.func 43) #[] #[]] w fun e w' => ∃ o9 c9 xs r A' F' odd' rs', e = .returned (.slice o9 r c9) ∧ Fin r A' odd' ∧ Q r A' odd' ∧ GD w' xs (pvs A' r) ∧ Agr n W r A' F' ∧ rs'.length = n ∧ RD w' rs' (mkM n W F') ∧
      St w0 (ls w0.heap.size 26 4 (.slice o9 r c9) r xs :: ls w0.heap.size 28 1 (.slice o n c) n (rs'.map (·.v)) :: bx pt #[.slice o n c, .int .i64 (h : Int), .int .i64 (m : Int), .bool odd'] 77 :: (bs ++ rs'.map (Rw.e w0.heap.size))) w' ∧ Kp w w' := by
  have kk := KpF.r w
  have HPV := hide hpv
  have HES := hide (fun e => Has.cons (e := e) hes)
  have HL4 := hide (show L ≤ 40000000 by omega)
  have HL5 := hide (show L + L + 1 ≤ 100000000 by omega)
  have HL6 := hide (show L + L + 2 ≤ 20000000 by omega)
  have HBD := hide hB
  have HQ0 := hide hQ
  have HA0 := hide hA
  clear hpv hB hQ hA hes
  unfold EntP at hf
  go_enter Tryz.func39, Tryz.ntmps39
  have hs := hst
  clear hst
  refine wp_seq_k ?_
  intro K1 hK1
  refine rg [0] ?_
  refine sq ?_
  refine .mv ?_
  apply wpSq_end
  refine hK1 _ _ ?_
  refine wp_scope_k 9 ?_
  intro S hSr hSn hSg
  refine wp_seq_k ?_
  intro K2 hK2
  refine rg [0] ?_
  refine sq ?_
  refine .mv ?_
  apply wpSq_end
  refine hK2 _ _ ?_
  refine wp_seq_k ?_
  intro K3 hK3
  refine rg [0] ?_
  refine sq ?_
  refine .r0 ?_
  apply wpSq_end
  refine hK3 _ _ ?_
  refine wp_seq_k ?_
  intro K4 hK4
  refine wp_label ?_
  refine hK4 _ _ ?_
  refine wp_seq_k ?_
  intro K5 hK5
  refine wp_seq_k ?_
  intro K6 hK6
  refine rg [0] ?_
  refine sq ?_
  refine .mv ?_
  apply wpSq_end
  refine hK6 _ _ ?_
  refine wp_block ?_
  have hd1 := hs.2.1
  go_loopg [9, 10, 11] n (fun kz s9 s10 s11 wr => ∃ (k : Nat) (A F : Nat → Nat → Int × Int) (odd : Bool) (rs : List Rw) (f2 : Nat) (caps2 : Array Value) (o9 : Option Addr) (c9 : Nat) (xs : List Value), s11 = .int .i64 (k : Int) ∧ s10 = .func (.func f2) #[] caps2 ∧ s9 = .slice o9 k c9 ∧ k + kz = n ∧ Hid (k = 0 → f2 = 74 ∧ caps2 = #[]) ∧ Hid (Q k A odd) ∧ Hid (Agr n W k A F) ∧ rs.length = n ∧ RD wr rs (mkM n W F) ∧ GD wr xs (pvs A k) ∧ KpF w wr ∧
    St w0 (ls w0.heap.size 28 1 (.slice o n c) n (rs.map (·.v)) :: bx pt #[.slice o n c, .int .i64 (h : Int), .int .i64 (m : Int), .bool odd] 77 :: ls w0.heap.size 26 4 (.slice o9 k c9) k xs :: (bs ++ rs.map (Rw.e w0.heap.size))) wr)
  case atStart => exact ⟨0, A, F, odd, rs, 74, #[], none, 0, [], rfl, rfl, rfl, by omega, hide (fun _ => ⟨rfl, rfl⟩), HQ0, HA0, hrl, hd, GD.nil _, kk, (hs.l0 _ _).perm ((List.Perm.swap _ _ _).trans (List.Perm.cons _ (List.Perm.swap _ _ _)))⟩
  case round =>
  clear HQ0 HA0 hrl
  clear kk hd hs
  obtain ⟨k, A, F, odd, rs, f2, caps2, o9, c9, xs, rfl, rfl, rfl, hkn, HID, HQ, HA, hrl, hd, hL9, kk, hs⟩ := hrel
  have HO := ‹∀ (a' : Act) (w' : World), Handed _ _ a' w' → _›
  obtain ⟨g1, hg1⟩ : ∃ g, gk = g := ⟨_, rfl⟩
  refine wp_seq_k ?_
  intro K7 hK7
  refine wp_block ?_
  refine wp_seq_k ?_
  intro K8 hK8
  refine rg [0, 1, 2, 3, 4, 5, 6, 7, 8] ?_
  refine sq ?_
  refine .mv ?_
  refine sq ?_
  refine .mv ?_
  refine sq ?_
  intro K hK
  go_big_op
  go_fit (HPV.out k _ A F odd rs (ls w0.heap.size 26 4 (.slice o9 k c9) k xs :: bs) (HES.out _) HQ.out HA.out hrl hd hs)
  have bb2 := hs.b
  rintro e w_2 ⟨_, fd, rs2, A2, F2, odd2, P, rfl, ⟨n_pa, o_pa, k_pa, c_pa, n_pb, o_pb, k_pb, c_pb, rfl, p1, p2⟩, HP, q1, hd2, hs', kp2⟩
  clear hs; have hs := hs'; clear hs'
  have bc2 := hs.b
  clear bb2 bc2
  refine hK _ _ rfl trivial ?_
  clear hK K
  refine sq ?_
  refine .mv ?_
  refine sq ?_
  refine .r0 ?_
  refine sq ?_
  refine .r0 ?_
  refine sq ?_
  refine .al hs ?_; clear hs; intro p_b1 w_3 hs n3 kb_b1
  refine sq ?_
  refine .s4 hs.g0 (fun _ => hs.u0 kb_b1) ?_; clear hs; intro w_4 hs hd4 ho4
  refine sq ?_
  refine .mv ?_
  apply wpSq_end
  refine hK8 _ _ ?_
  refine wp_seq_k ?_
  intro K9 hK9
  refine wp_block ?_
  refine wp_seq_k ?_
  intro K10 hK10
  refine rg [0, 1, 2] ?_
  refine sq ?_
  refine .mv ?_
  refine sq ?_
  refine .r0 ?_
  refine sq ?_
  refine .mv ?_
  apply wpSq_end
  refine hK10 _ _ ?_
  rcases HP with ⟨rfl, hkn2, hkW, hQ2, hA2, hP, hdet, hlead⟩ | ⟨rfl, hFin, rfl, rfl, rfl⟩
  · have HA2 := hide hA2
    have HQ2 := hide hQ2
    have HDT := hide hdet
    have HLD := hide hlead
    have HKN := hide hkn2
    have HKW := hide hkW
    have HB2 := hide (HBD.out (k + 1) A2 odd2 hQ2)
    have HPE := hide hP
    have LP := hide (show zl L P by rw [hP]; exact HB2.out k (by omega) k hkn2 k hkW)
    clear hA2 hQ2 hdet hlead hP
    refine cf ?_
    refine wp_seq_k ?_
    intro K11 hK11
    refine rg [0, 1, 2] ?_
    refine sq ?_
    refine .mv ?_
    refine sq ?_
    refine .r0 ?_
    refine sq ?_
    refine .mv ?_
    apply wpSq_end
    refine hK11 _ _ ?_
    by_cases hk0 : k = 0
    · have t1 : k < 1 := by omega
      have hdv : DivF w_4 f2 caps2 [] (Dt.det k A2) := by
        obtain ⟨e1, e2⟩ := HID.out hk0
        exact .inl ⟨e1, e2, rfl, by rw [hk0]; rfl⟩
      clear hk0
      refine cf ?_
      refine wp_skip ?_
      refine hK9 _ _ ?_
      refine wp_seq_k ?_
      intro K12 hK12
      refine wp_seq_k ?_
      intro K13 hK13
      refine rg [0, 1, 2, 3, 4, 5] ?_
      refine sq ?_
      refine .mv ?_
      refine sq ?_
      refine .mv ?_
      refine sq ?_
      refine .r0 ?_
      refine sq ?_
      refine .r0 ?_
      refine sq ?_
      refine .r0 ?_
      refine sq ?_
      refine .mv ?_
      apply wpSq_end
      refine hK13 _ _ ?_
      refine wp_block ?_
      generalize hoT : (@ite (Option Addr) (c = k + 1) _ o _) = oT
      have HT := hide hoT
      clear hoT
      have hs := hs.perm ((List.Perm.swap _ _ _).trans (List.Perm.cons _ ((List.Perm.swap _ _ _).trans (List.Perm.cons _ (List.Perm.swap _ _ _)))))
      have k1_3 := (kb n3).o hd4 ho4
      replace hd2 := hd2.k k1_3
      replace p1 := p1.k k1_3
      replace p2 := p2.k k1_3
      have k0_3 := (kp2.b n3).o hd4 ho4
      replace hL9 := hL9.k k0_3
      replace kk := kk.k k0_3
      have hd5 := hs.2.1
      go_loopg [43] (n - (k + 1)) (fun kz s43 wr => ∃ (q : Nat) (rs : List Rw), s43 = .int .i64 (q : Int) ∧ q + kz = n - (k + 1) ∧ rs.length = n ∧ RD wr rs (mkM n W (Elm k A2 F2 (k + 1 + q) (k + 1))) ∧ ZC wr (.agg #[.bool n_pa, .slice o_pa k_pa c_pa]) P.1 ∧ ZC wr (.agg #[.bool n_pb, .slice o_pb k_pb c_pb]) P.2 ∧ GD wr xs (pvs A k) ∧ DivF wr f2 caps2 ([] : List En) (Dt.det k A2) ∧ KpF w wr ∧
        St w0 (ls w0.heap.size 28 1 (.slice o n c) n (rs.map (·.v)) :: bx pt #[.slice o n c, .int .i64 (h : Int), .int .i64 (m : Int), .bool odd2] 77 :: ls w0.heap.size 26 4 (.slice o9 k c9) k xs :: bx p_b1 #[.bool n_pa, .slice o_pa k_pa c_pa, .bool n_pb, .slice o_pb k_pb c_pb] 26 :: ((([] : List En) ++ bs) ++ rs.map (Rw.e w0.heap.size))) wr)
      case atStart => exact ⟨0, rs2, rfl, by omega, q1, by rw [Nat.add_zero, ← Elm_0]; exact hd2, p1, p2, hL9, hdv, kk, hs⟩
      case round =>
      clear hL9 hd kk p1 p2 hd2 hdv hs
      obtain ⟨q, rs, rfl, hqn, hrl, hd, z5, z6, hL9, hdv, kk, hs⟩ := hrel
      have HO2 := ‹∀ (a' : Act) (w' : World), Handed _ _ a' w' → _›
      obtain ⟨g2, hg2⟩ : ∃ g, gk = g := ⟨_, rfl⟩
      have Lz5 := hide LP.out.1
      have Lz6 := hide LP.out.2
      by_cases hq : q < n - (k + 1)
      · have HQQ := hide hq
        have HI := hide (show k + 1 + q < n by omega)
        obtain ⟨oi, ci, hvi⟩ := hs.rowv (bs := bx pt #[.slice o n c, .int .i64 (h : Int), .int .i64 (m : Int), .bool odd2] 77 :: ls w0.heap.size 26 4 (.slice o9 k c9) k xs :: bx p_b1 #[.bool n_pa, .slice o_pa k_pa c_pa, .bool n_pb, .slice o_pb k_pb c_pb] 26 :: (([] : List En) ++ bs)) hd (p := k + 1 + q) (K := W) (by rw [len_mkM]; omega) (by rw [mkM_row (by omega)]; simp)
        have LO : Lst wr w0.heap.size 28 1 (.slice o n c) n _ := hs.1.1.1
        obtain ⟨gO, curO, rfl, xO, hcO⟩ := LO.box (by omega)
        have eI := hcO _ _ hvi
        have hcap := LO.capn
        obtain rfl : oT = some ⟨gO, k + 1, none⟩ := by
          have := HT.out
          rw [if_neg (by omega)] at this
          rw [← this]; simp
        clear LO hcO HT
        refine wp_seq_k ?_
        intro K14 hK14
        refine rg [0] ?_
        refine sq ?_
        refine .r0 ?_
        apply wpSq_end
        refine hK14 _ _ ?_
        refine wp_seq_k ?_
        intro K15 hK15
        refine ct ?_
        refine wp_skip ?_
        refine hK15 _ _ ?_
        refine wp_seq_k ?_
        intro K16 hK16
        refine wp_block ?_
        refine wp_seq_k ?_
        intro K17 hK17
        refine rg [0, 1, 2] ?_
        refine sq ?_
        refine .r0 ?_
        refine sq ?_
        refine .r1 (xO.cell _ eI) ?_
        refine sq ?_
        refine .mv ?_
        apply wpSq_end
        refine hK17 _ _ ?_
        refine wp_seq_k ?_
        intro K18 hK18
        refine rg [0, 1, 2] ?_
        refine sq ?_
        refine .mv ?_
        refine sq ?_
        refine .r0 ?_
        refine sq ?_
        refine .mv ?_
        apply wpSq_end
        refine hK18 _ _ ?_
        refine wp_block ?_
        have hd6 := hs.2.1
        go_loopg [16] (W - (k + 1)) (fun kz s16 wr => ∃ (j : Nat) (rs : List Rw), s16 = .int .i64 (j : Int) ∧ j + kz = W ∧ k + 1 ≤ j ∧ rs.length = n ∧ RD wr rs (mkM n W (Elm k A2 F2 (k + 1 + q) j)) ∧ (rs.map (·.v))[k + 1 + q]? = some (.slice oi W ci) ∧ ZC wr (.agg #[.bool n_pa, .slice o_pa k_pa c_pa]) P.1 ∧ ZC wr (.agg #[.bool n_pb, .slice o_pb k_pb c_pb]) P.2 ∧ GD wr xs (pvs A k) ∧ DivF wr f2 caps2 ([] : List En) (Dt.det k A2) ∧ KpF w wr ∧
          St w0 (ls w0.heap.size 28 1 (.slice (some ⟨gO, 0, none⟩) n c) n (rs.map (·.v)) :: bx pt #[.slice (some ⟨gO, 0, none⟩) n c, .int .i64 (h : Int), .int .i64 (m : Int), .bool odd2] 77 :: ls w0.heap.size 26 4 (.slice o9 k c9) k xs :: bx p_b1 #[.bool n_pa, .slice o_pa k_pa c_pa, .bool n_pb, .slice o_pb k_pb c_pb] 26 :: ((([] : List En) ++ bs) ++ rs.map (Rw.e w0.heap.size))) wr)
        case atStart => exact ⟨k + 1, rs, by rfl, by omega, Nat.le_refl _, hrl, hd, hvi, z5, z6, hL9, hdv, kk, hs⟩
        case round =>
        clear hrl hvi
        clear z5 z6 hL9 hd kk hdv xO hs
        obtain ⟨j, rs, rfl, hjW, hkj, hrl, hd, hri, z5, z6, hL9, hdv, kk, hs⟩ := hrel
        have HRI := hide hri
        clear hri
        have Lz5 := hide LP.out.1
        have Lz6 := hide LP.out.2
        by_cases hj : j < W
        · have HJ := hide hj
          obtain ⟨a, gp, cp, xp, b, gq, cq, xq, r2, rfl, hab, hvp, hvq, hxp, hxq, hs⟩ := hs.rows2 (bs := bx pt #[.slice (some ⟨gO, 0, none⟩) n c, .int .i64 (h : Int), .int .i64 (m : Int), .bool odd2] 77 :: ls w0.heap.size 26 4 (.slice o9 k c9) k xs :: bx p_b1 #[.bool n_pa, .slice o_pa k_pa c_pa, .bool n_pb, .slice o_pb k_pb c_pb] 26 :: (([] : List En) ++ bs)) hd (p := k) (q := k + 1 + q) (K := W) (by omega) (by rw [len_mkM]; exact HI.out) (by rw [mkM_row HKN.out]; simp) (by rw [mkM_row HI.out]; simp) (by omega)
          have hri := HRI.out
          rw [hvq] at hri
          simp only [Option.some.injEq, Value.slice.injEq, true_and] at hri
          obtain ⟨rfl, rfl⟩ := hri
          have LO : Lst wr w0.heap.size 28 1 (.slice (some ⟨gO, 0, none⟩) n c) n _ := hs.1.2.2.1.1
          obtain ⟨gO', curO, eO', xO, hcO⟩ := LO.box (by have := HI.out; omega)
          simp only [Option.some.injEq, Addr.mk.injEq, and_true] at eO'
          obtain rfl : gO = gO' := eO'
          have eK := hcO _ _ hvp
          have LQ : Lst wr w0.heap.size 26 4 (.slice (some ⟨gq, 0, none⟩) W cq) W xq := hs.1.1.1
          obtain ⟨gq', curQ, eQ, xQ, hcQ⟩ := LQ.box (by omega)
          simp only [Option.some.injEq, Addr.mk.injEq, and_true] at eQ
          obtain rfl : gq = gq' := eQ
          have LPr : Lst wr w0.heap.size 26 4 (.slice (some ⟨gp, 0, none⟩) W cp) W xp := hs.1.2.1.1
          obtain ⟨gp', curP, eP, xP, hcP⟩ := LPr.box (by omega)
          simp only [Option.some.injEq, Addr.mk.injEq, and_true] at eP
          obtain rfl : gp = gp' := eP
          have hxq2 := hxq
          rw [mkM_row HI.out] at hxq2
          rw [mkM_row HKN.out] at hxp
          obtain ⟨a1, a2, a3, a4, a5, a6, a7, a8, e1, e2, e3, e4, x1, x2⟩ := hxq2.els j (by simpa using hj)
          obtain ⟨b1, b2, b3, b4, b5, b6, b7, b8, e5, e6, e7, e8, y1, y2⟩ := hxq2.els k (by simpa using HKW.out)
          obtain ⟨d1, d2, d3, d4, d5, d6, d7, d8, e9, e10, e11, e12, y3, y4⟩ := hxp.els j (by simpa using hj)
          rw [show ((List.range W).map (Elm k A2 F2 (k + 1 + q) j (k + 1 + q)))[j]'(by simpa using hj) = F2 (k + 1 + q) j by simp [Elm_here]] at x1 x2
          rw [show ((List.range W).map (Elm k A2 F2 (k + 1 + q) j (k + 1 + q)))[k]'(by simpa using HKW.out) = F2 (k + 1 + q) k by simp [Elm_k]] at y1 y2
          rw [show ((List.range W).map (Elm k A2 F2 (k + 1 + q) j k))[j]'(by simpa using hj) = F2 k j by simp [Elm_up]] at y3 y4
          have EE := hide (Elm_div HA2.out HI.out hj (by omega) (by omega) HKN.out HKW.out HDT.out)
          have LX : zl L (F2 (k + 1 + q) j) := by rw [HA2.out _ HI.out j hj (by omega) (by omega)]; exact HB2.out k (by omega) _ HI.out j hj
          have LY : zl L (F2 (k + 1 + q) k) := by rw [HA2.out _ HI.out k HKW.out (by omega) (by omega)]; exact HB2.out k (by omega) _ HI.out k HKW.out
          have LU : zl L (F2 k j) := by rw [HA2.out k HKN.out j hj (by omega) (by omega)]; exact HB2.out k (by omega) k HKN.out j hj
          replace x1 := x1.zn LX.1
          replace x2 := x2.zn LX.2
          replace y1 := y1.zn LY.1
          replace y2 := y2.zn LY.2
          replace y3 := y3.zn LU.1
          replace y4 := y4.zn LU.2
          replace e1 := hcQ _ _ e1
          replace e2 := hcQ _ _ e2
          replace e3 := hcQ _ _ e3
          replace e4 := hcQ _ _ e4
          replace e5 := hcQ _ _ e5
          replace e6 := hcQ _ _ e6
          replace e7 := hcQ _ _ e7
          replace e8 := hcQ _ _ e8
          replace e9 := hcP _ _ e9
          replace e10 := hcP _ _ e10
          replace e11 := hcP _ _ e11
          replace e12 := hcP _ _ e12
          obtain ⟨X, hX⟩ : ∃ X, F2 (k + 1 + q) j = X := ⟨_, rfl⟩
          obtain ⟨Y, hY⟩ : ∃ Y, F2 (k + 1 + q) k = Y := ⟨_, rfl⟩
          obtain ⟨U, hU⟩ : ∃ U, F2 k j = U := ⟨_, rfl⟩
          obtain ⟨V, hV⟩ : ∃ V, Dt.det k A2 = V := ⟨_, rfl⟩
          have HT := hide (Elm_step (k := k) (A := A2) (F := F2) (i := k + 1 + q) (j := j) (by omega) (by omega))
          have HTZ := hide (show True from trivial)
          obtain ⟨Z, hZ⟩ : ∃ Z, Dt.D (k + 1) A2 (k + 1 + q) j = Z := ⟨_, rfl⟩
          have E3 := EE.out
          rw [← HPE.out, hX, hY, hU, hV, hZ] at E3
          rw [hX] at x1 x2 LX
          rw [hY] at y1 y2 LY
          rw [hU] at y3 y4 LU
          rw [hV] at hdv
          have HTS := HT.out
          rw [hZ] at HTS
          have HS := hide HTS
          have HV := hide hV
          have E1 := hide (show X.1 * P.1 - X.2 * P.2 - (Y.1 * U.1 - Y.2 * U.2) = (mP V Z).1 from congrArg Prod.fst E3)
          have E2 := hide (show X.1 * P.2 + X.2 * P.1 - (Y.1 * U.2 + Y.2 * U.1) = (mP V Z).2 from congrArg Prod.snd E3)
          have LM := hide (show zl (L + L + 1) (mP X P) from zl_mP LX LP.out)
          have LN := hide (show zl (L + L + 1) (mP Y U) from zl_mP LY LU)
          have LZ := hide (show zl (L + L + 2) (mP V Z) by rw [← E3]; exact zl_sPx LM.out LN.out)
          have hent := hdv.ent
          unfold Ent1 at hent
          clear LO hcO hvp hvq LQ hcQ hxq2 LPr hcP hxp hX hY hU hV hZ EE HT E3 LX LY LU HTS HRI
          refine wp_seq_k ?_
          intro K19 hK19
          refine wp_seq_k ?_
          intro K20 hK20
          refine rg [0, 1, 2, 3] ?_
          refine sq ?_
          refine .mv ?_
          refine sq ?_
          refine .mv ?_
          refine sq ?_
          refine .r0 ?_
          refine sq ?_
          refine .r0 ?_
          apply wpSq_end
          refine hK20 _ _ ?_
          refine ct ?_
          refine wp_skip ?_
          refine hK19 _ _ ?_
          refine wp_seq_k ?_
          intro K21 hK21
          refine wp_block ?_
          refine wp_region_f4 [(0, false), (1, false), (2, false), (3, false), (4, false), (5, false), (6, false), (7, false), (8, false), (10, false), (11, false), (12, false), (13, false), (14, false), (15, false), (16, false), (17, false), (18, false), (19, false), (20, false), (9, true), (21, true), (22, true), (23, true), (24, false)] [25] [] (fun _ => default) [99, 99, 99, 99, 99, 99, 99, 0, 1, 99, 99, 99, 99, 0, 99, 99, 99, 2, 99, 99, 3, 99, 99, 99, 99, 99] [(25, 0)] (.c xQ (.c hs.g5 (.c xO (.c xP .n)))) fn fun w_7 n7 => ?_
          replace xO := xO.bl n7; replace xQ := xQ.bl n7; replace xP := xP.bl n7; replace hs := hs.bl n7
          refine fmv ?_
          refine fmv ?_
          refine fmv ?_
          refine fmv ?_
          refine fmv ?_
          refine fmv ?_
          refine f0 ?_
          apply wpFl_ld rfl rfl; (case h1 => intro w' hC K hK; have c0 := Bs.cell hC ((j * 4)) e1; have c1 := Bs.cell hC ((j * 4) + 1) e2; have c2 := Bs.cell hC ((j * 4) + 2) e3; have c3 := Bs.cell hC ((j * 4) + 3) e4; go_big_op; exact hK); iterate 4 kernel_rfl
          refine f4 ?_
          refine fmv ?_
          refine fmv ?_
          refine f0 ?_
          apply wpFl_ld rfl rfl; (case h1 => intro w' hC K hK; have c0 := Bs.cell hC ((k * 4)) e5; have c1 := Bs.cell hC ((k * 4) + 1) e6; have c2 := Bs.cell hC ((k * 4) + 2) e7; have c3 := Bs.cell hC ((k * 4) + 3) e8; go_big_op; exact hK); iterate 4 kernel_rfl
          refine fmv ?_
          refine fmv ?_
          refine f0 ?_
          apply wpFl_ld rfl rfl; (case h1 => intro w' hC K hK; have c0 := Bs.cell hC (k) eK; go_big_op; exact hK); iterate 4 kernel_rfl
          refine fmv ?_
          refine f0 ?_
          apply wpFl_ld rfl rfl; (case h1 => intro w' hC K hK; have c0 := Bs.cell hC ((j * 4)) e9; have c1 := Bs.cell hC ((j * 4) + 1) e10; have c2 := Bs.cell hC ((j * 4) + 2) e11; have c3 := Bs.cell hC ((j * 4) + 3) e12; go_big_op; exact hK); iterate 4 kernel_rfl
          refine fl fun w_8 n8 => ?_
          replace xO := xO.bl n8; replace xQ := xQ.bl n8; replace xP := xP.bl n8; replace hs := hs.bl n8
          intro K hK
          have k0_2 := (kb n7).b n8
          replace x1 := x1.k k0_2
          replace x2 := x2.k k0_2
          replace z5 := z5.k k0_2
          replace z6 := z6.k k0_2
          go_big_op
          go_fit (gMul_any (.mk' x1 x2) (.mk' (z5.zn Lz5.out) (z6.zn Lz6.out)) HL4.out HL4.out HL4.out HL4.out)
          rintro e w_9 ⟨_, rfl, ⟨n_fa, o_fa, k_fa, c_fa, n_fb, o_fb, k_fb, c_fb, rfl, f1, f2⟩, hb_9⟩
          replace xO := xO.bl hb_9; replace xQ := xQ.bl hb_9; replace xP := xP.bl hb_9; replace hs := hs.bl hb_9
          have Lf1 := hide (f1.lenOf (LM.out.1))
          have Lf2 := hide (f2.lenOf (LM.out.2))
          refine hK _ _ rfl ⟨hb_9, (And.intro xQ (And.intro hs.g5 (And.intro xO (And.intro xP trivial))))⟩ ?_
          clear hK K
          refine fl fun w_10 n10 => ?_
          replace xO := xO.bl n10; replace xQ := xQ.bl n10; replace xP := xP.bl n10; replace hs := hs.bl n10
          intro K hK
          have k0_4 := (k0_2.b hb_9).b n10
          replace y1 := y1.k k0_4
          replace y2 := y2.k k0_4
          replace y3 := y3.k k0_4
          replace y4 := y4.k k0_4
          go_big_op
          go_fit (gMul_any (.mk' y1 y2) (.mk' y3 y4) HL4.out HL4.out HL4.out HL4.out)
          rintro e w_11 ⟨_, rfl, ⟨n_ga, o_ga, k_ga, c_ga, n_gb, o_gb, k_gb, c_gb, rfl, g1, g2⟩, hb_11⟩
          replace xO := xO.bl hb_11; replace xQ := xQ.bl hb_11; replace xP := xP.bl hb_11; replace hs := hs.bl hb_11
          have Lg1 := hide (g1.lenOf (LN.out.1))
          have Lg2 := hide (g2.lenOf (LN.out.2))
          refine hK _ _ rfl ⟨hb_11, (And.intro xQ (And.intro hs.g5 (And.intro xO (And.intro xP trivial))))⟩ ?_
          clear hK K
          refine fl fun w_12 n12 => ?_
          replace xO := xO.bl n12; replace xQ := xQ.bl n12; replace xP := xP.bl n12; replace hs := hs.bl n12
          intro K hK
          have k3_6 := ((kb n10).b hb_11).b n12
          replace f1 := f1.k k3_6
          replace f2 := f2.k k3_6
          have k5_6 := kb n12
          replace g1 := g1.k k5_6
          replace g2 := g2.k k5_6
          go_big_op
          go_fit (gSub_any (.mk' (f1.zn Lf1.out) (f2.zn Lf2.out)) (.mk' (g1.zn Lg1.out) (g2.zn Lg2.out)) HL5.out HL5.out HL5.out HL5.out)
          rintro e w_13 ⟨_, rfl, ⟨n_sa, o_sa, k_sa, c_sa, n_sb, o_sb, k_sb, c_sb, rfl, s1, s2⟩, hb_13⟩
          replace xO := xO.bl hb_13; replace xQ := xQ.bl hb_13; replace xP := xP.bl hb_13; replace hs := hs.bl hb_13
          rw [E1.out] at s1
          rw [E2.out] at s2
          refine hK _ _ rfl ⟨hb_13, (And.intro xQ (And.intro hs.g5 (And.intro xO (And.intro xP trivial))))⟩ ?_
          clear hK K
          refine fl fun w_14 n14 => ?_
          replace xO := xO.bl n14; replace xQ := xQ.bl n14; replace xP := xP.bl n14; replace hs := hs.bl n14
          intro K hK
          have k0_8 := (((k0_4.b hb_11).b n12).b hb_13).b n14
          replace hdv := hdv.k k0_8
          have k7_8 := kb n14
          replace s1 := s1.k k7_8
          replace s2 := s2.k k7_8
          go_big_op
          go_fit (hdv.call (hs.sub (.cons _ (.cons _ (.cons _ (.cons _ (.cons _ (.cons _ ((List.sublist_append_left ([] : List En) bs).trans (List.sublist_append_left _ _))))))))).1 (.mk' s1 s2) LZ.out HL6.out)
          rintro e w_15 ⟨_, rfl, ⟨n_ta, o_ta, k_ta, c_ta, n_tb, o_tb, k_tb, c_tb, rfl, t1, t2⟩, hb_15⟩
          replace xO := xO.bl hb_15; replace xQ := xQ.bl hb_15; replace xP := xP.bl hb_15; replace hs := hs.bl hb_15
          refine hK _ _ rfl ⟨hb_15, (And.intro xQ (And.intro hs.g5 (And.intro xO (And.intro xP trivial))))⟩ ?_
          clear hK K
          refine f0 ?_
          refine e0 hs ?_; clear hs; intro w_16 hs n16
          clear f1 f2 g1 g2 s1 s2
          replace xO := xO.bl n16; replace xQ := xQ.bl n16; replace xP := xP.bl n16
          refine tl ?_
          refine .i4 0 hs (j := j) (by exact HJ.out) ?_ (e := fun _ hB hO => (And.intro True.intro (And.intro (hs.g5.frame hO (hs.ne 5 0)) (And.intro (xO.frame hO (hs.ne 2 0)) (And.intro (xP.frame hO (hs.ne 1 0)) True.intro))))); clear hs; intro w_17 hs kp17 hd17 ho17 hw17; simp only [List.set_cons_zero] at hs
          clear xO
          clear xQ
          clear xP
          apply wpTail_end
          refine hK21 _ _ ?_
          refine rg [0, 1, 2] ?_
          refine sq ?_
          refine .mv ?_
          refine sq ?_
          refine .r0 ?_
          refine sq ?_
          refine .mv ?_
          apply wpSq_end
          have k0_11 := ((k0_8.b hb_15).b n16).t kp17
          replace hd := hd.k k0_11
          replace hxq := hxq.k k0_11
          have k9_11 := (kb n16).t kp17
          replace t1 := t1.k k9_11
          replace t2 := t2.k k9_11
          have k2_11 := ((((((((kb hb_9).b n10).b hb_11).b n12).b hb_13).b n14).b hb_15).b n16).t kp17
          replace z5 := z5.k k2_11
          replace z6 := z6.k k2_11
          replace hL9 := hL9.k k0_11
          have k8_11 := ((kb hb_15).b n16).t kp17
          replace hdv := hdv.k k8_11
          replace kk := kk.k k0_11
          refine ‹∀ (a' : Act) (w' : World), Handed _ _ a' w' → _› _ _ ?_
          have hs := hs.unrows2 (bs := bx pt #[.slice (some ⟨gO, 0, none⟩) n c, .int .i64 (h : Int), .int .i64 (m : Int), .bool odd2] 77 :: ls w0.heap.size 26 4 (.slice o9 k c9) k xs :: bx p_b1 #[.bool n_pa, .slice o_pa k_pa c_pa, .bool n_pb, .slice o_pb k_pb c_pb] 26 :: (([] : List En) ++ bs))
          rw [mkM_row HI.out] at hxq
          have hd := RD.set' (r1 := a ++ (⟨.slice (some ⟨gp, 0, none⟩) W cp, W, xp⟩ : Rw) :: b) (v := .slice (some ⟨gq, 0, none⟩) W cq) (n := W) (by simp) (GD.put t1 t2 hxq (q := j) (by simpa using HJ.out)) (by simpa using hd) hab
          rw [show ((Z.1, Z.2) : Int × Int) = Z from rfl, mkM_set HI.out, HS.out] at hd
          rw [← HV.out] at hdv
          go_roundg (gk - 1)
          case rel => exact ⟨j + 1, _, by rfl, by omega, by omega, by simpa using hrl, by simpa using hd, by rw [List.map_append, List.map_cons, List.map_append, List.map_cons, ← List.cons_append, ← List.append_assoc, List.getElem?_append_right (by simpa using Nat.le_of_eq hab)]; simp at hab ⊢; simp [← hab], z5, z6, hL9, hdv, kk, hs⟩
          case measure => omega
        · obtain rfl : W = j := by omega
          have HX := hide hj
          refine wp_seq_k ?_
          intro K19 hK19
          refine wp_seq_k ?_
          intro K20 hK20
          refine rg [0, 1, 2, 3] ?_
          refine sq ?_
          refine .mv ?_
          refine sq ?_
          refine .mv ?_
          refine sq ?_
          refine .r0 ?_
          refine sq ?_
          refine .r0 ?_
          apply wpSq_end
          refine hK20 _ _ ?_
          refine cf ?_
          refine wp_exit ?_
          refine hK16 _ _ ?_
          refine rg [0, 1] ?_
          refine sq ?_
          refine .r0 ?_
          refine sq ?_
          refine .mv ?_
          apply wpSq_end
          refine HO2 _ _ ?_
          go_roundg (g2 - 1)
          case rel => exact ⟨q + 1, rs, by rfl, by omega, hrl, by rw [show k + 1 + (q + 1) = k + 1 + q + 1 from rfl, ← Elm_row]; exact hd, z5, z6, hL9, hdv, kk, hs⟩
          case measure => omega
      · have hqe : k + 1 + q = n := by omega
        have HX := hide hq
        have HE := hide hqe
        clear hqe
        refine wp_seq_k ?_
        intro K14 hK14
        refine rg [0] ?_
        refine sq ?_
        refine .r0 ?_
        apply wpSq_end
        refine hK14 _ _ ?_
        refine wp_seq_k ?_
        intro K15 hK15
        refine cf ?_
        refine wp_exit ?_
        refine hK12 _ _ ?_
        refine rg [0, 1, 2, 3, 4] ?_
        refine sq ?_
        refine .mv ?_
        refine sq ?_
        refine .r4 hs.g3.f4 ?_
        refine sq ?_
        refine .al hs ?_; clear hs; intro p_b2 w_6 hs n6 kb_b2
        refine sq ?_
        have k0_1 := kb n6
        replace hL9 := hL9.k k0_1
        replace z5 := z5.k k0_1
        replace z6 := z6.k k0_1
        replace hL9 := hL9.snoc (.mk' z5 z6)
        refine .ap 3 hs hs.g0 ?_; clear hs; intro o_L_7 c_L_7 w_7 hs kp7 hw7; simp only [List.set_cons_succ, List.set_cons_zero] at hs
        refine sq ?_
        refine .mv ?_
        apply wpSq_end
        refine hK7 _ _ ?_
        refine rg [0, 1, 2] ?_
        refine sq ?_
        refine .mv ?_
        refine sq ?_
        refine .r0 ?_
        refine sq ?_
        refine .mv ?_
        apply wpSq_end
        have k0_2 := k0_1.t kp7
        replace hd := hd.k k0_2
        have k1_2 := kp7
        replace hL9 := hL9.k k1_2
        replace kk := kk.k k0_2
        refine HO _ _ ?_
        have hs := hs.sub (show List.Sublist (ls w0.heap.size 28 1 (.slice o n c) n (rs.map (·.v)) :: bx pt #[.slice o n c, .int .i64 (h : Int), .int .i64 (m : Int), .bool odd2] 77 :: _ :: (bs ++ rs.map (Rw.e w0.heap.size))) _ from .cons _ (.cons_cons _ (.cons_cons _ (.cons_cons _ (.cons _ (List.Sublist.append_right (List.sublist_append_right ([] : List En) bs) _))))))
        go_roundg (g1 - 1)
        case rel => exact ⟨k + 1, A2, Elm k A2 F2 n (k + 1), odd2, rs, f2, caps2, _, _, _, by rfl, rfl, by rfl, by omega, hide (fun h => absurd h (by omega)), HQ2, hide Elm_end, hrl, by rw [← HE.out] at hd ⊢; exact hd, by rw [pvs_succ, ← pvs_congr HLD.out, ← Dt.D_diag, ← HPE.out]; exact hL9, kk, hs⟩
        case measure => omega
    · have t1 : 0 < k := by omega
      obtain ⟨k1, hk1⟩ : ∃ k1, k = k1 + 1 := ⟨k - 1, by omega⟩
      have HK1 := hide hk1
      have LL : Lst w_4 w0.heap.size 26 4 (.slice o9 k c9) k xs := (hs.1.at (i := 3) rfl).1
      obtain ⟨gL, curL, rfl, xL, hcL⟩ := LL.box t1
      have k0_3 := (kp2.b n3).o hd4 ho4
      replace hL9 := hL9.k k0_3
      obtain ⟨l1, l2, l3, l4, l5, l6, l7, l8, e1, e2, e3, e4, v1, v2⟩ := hL9.els k1 (by rw [pvs_len]; omega)
      rw [show (pvs A k)[k1]'(by rw [pvs_len]; omega) = Dt.det k A2 by rw [HLD.out k (Nat.le_refl _)]; simp [pvs, hk1]] at v1 v2
      replace e1 := hcL _ _ e1
      replace e2 := hcL _ _ e2
      replace e3 := hcL _ _ e3
      replace e4 := hcL _ _ e4
      have LV : zl L (Dt.det k A2) := by rw [hk1, ← Dt.D_diag]; exact HB2.out k1 (by omega) k1 (by omega) k1 (by omega)
      replace v1 := v1.zn LV.1
      replace v2 := v2.zn LV.2
      have HN0 := hide (show gN (Dt.det k A2).1 (Dt.det k A2).2 ≠ 0 from fun c => HDT.out (Prod.ext (gN_zero.1 c).1 (gN_zero.1 c).2))
      have HLL := hide (show L ≤ 10000000 by omega)
      have EK1 : (k : Int) - 1 = (k1 : Int) := by omega
      clear LL hcL hk0 LV hk1
      refine ct ?_
      refine rg [0, 1, 2, 3, 4, 5, 6, 7] ?_
      refine sq ?_
      refine .mv ?_
      refine sq ?_
      refine .mv ?_
      refine sq ?_
      refine .mv ?_
      refine sq ?_
      refine .r0 ?_
      refine sq ?_
      refine .r0 ?_
      refine sq ?_
      refine .r4 ⟨xL.cell _ e1, xL.cell _ e2, xL.cell _ e3, xL.cell _ e4⟩ ?_
      refine sq ?_
      intro K hK
      go_big_op
      go_fit (overNumber_any hs (.mk' v1 v2) HLL.out HLL.out HN0.out)
      have bb5 := hs.b
      rintro e w_5 ⟨f3, caps3, ds3, rfl, hdv, hs', kp5⟩
      clear hs; have hs := hs'; clear hs'
      have bc5 := hs.b
      clear xL
      clear bb5 bc5
      have k0_4 := k0_3.t kp5
      replace hd := hd.k k0_4
      replace hs := hs.perm (perm_in (hd := [_, _, _, _]))
      refine hK _ _ rfl trivial ?_
      clear hK K
      refine sq ?_
      refine .mv ?_
      apply wpSq_end
      refine hK9 _ _ ?_
      refine wp_seq_k ?_
      intro K12 hK12
      refine wp_seq_k ?_
      intro K13 hK13
      refine rg [0, 1, 2, 3, 4, 5] ?_
      refine sq ?_
      refine .mv ?_
      refine sq ?_
      refine .mv ?_
      refine sq ?_
      refine .r0 ?_
      refine sq ?_
      refine .r0 ?_
      refine sq ?_
      refine .r0 ?_
      refine sq ?_
      refine .mv ?_
      apply wpSq_end
      refine hK13 _ _ ?_
      refine wp_block ?_
      generalize hoT : (@ite (Option Addr) (c = k + 1) _ o _) = oT
      have HT := hide hoT
      clear hoT
      have hs := hs.perm ((List.Perm.swap _ _ _).trans (List.Perm.cons _ ((List.Perm.swap _ _ _).trans (List.Perm.cons _ (List.Perm.swap _ _ _)))))
      have k1_4 := ((kb n3).o hd4 ho4).t kp5
      replace hd2 := hd2.k k1_4
      replace p1 := p1.k k1_4
      replace p2 := p2.k k1_4
      have k3_4 := kp5
      replace hL9 := hL9.k k3_4
      replace kk := kk.k k0_4
      have hd6 := hs.2.1
      go_loopg [43] (n - (k + 1)) (fun kz s43 wr => ∃ (q : Nat) (rs : List Rw), s43 = .int .i64 (q : Int) ∧ q + kz = n - (k + 1) ∧ rs.length = n ∧ RD wr rs (mkM n W (Elm k A2 F2 (k + 1 + q) (k + 1))) ∧ ZC wr (.agg #[.bool n_pa, .slice o_pa k_pa c_pa]) P.1 ∧ ZC wr (.agg #[.bool n_pb, .slice o_pb k_pb c_pb]) P.2 ∧ GD wr xs (pvs A k) ∧ DivF wr f3 caps3 ds3 (Dt.det k A2) ∧ KpF w wr ∧
        St w0 (ls w0.heap.size 28 1 (.slice o n c) n (rs.map (·.v)) :: bx pt #[.slice o n c, .int .i64 (h : Int), .int .i64 (m : Int), .bool odd2] 77 :: ls w0.heap.size 26 4 (.slice (some ⟨gL, 0, none⟩) k c9) k xs :: bx p_b1 #[.bool n_pa, .slice o_pa k_pa c_pa, .bool n_pb, .slice o_pb k_pb c_pb] 26 :: ((ds3 ++ bs) ++ rs.map (Rw.e w0.heap.size))) wr)
      case atStart => exact ⟨0, rs2, rfl, by omega, q1, by rw [Nat.add_zero, ← Elm_0]; exact hd2, p1, p2, hL9, hdv, kk, hs⟩
      case round =>
      clear hL9 hd kk p1 p2 hd2 v1 v2 hdv hs
      obtain ⟨q, rs, rfl, hqn, hrl, hd, z5, z6, hL9, hdv, kk, hs⟩ := hrel
      have HO2 := ‹∀ (a' : Act) (w' : World), Handed _ _ a' w' → _›
      obtain ⟨g2, hg2⟩ : ∃ g, gk = g := ⟨_, rfl⟩
      have Lz5 := hide LP.out.1
      have Lz6 := hide LP.out.2
      by_cases hq : q < n - (k + 1)
      · have HQQ := hide hq
        have HI := hide (show k + 1 + q < n by omega)
        obtain ⟨oi, ci, hvi⟩ := hs.rowv (bs := bx pt #[.slice o n c, .int .i64 (h : Int), .int .i64 (m : Int), .bool odd2] 77 :: ls w0.heap.size 26 4 (.slice (some ⟨gL, 0, none⟩) k c9) k xs :: bx p_b1 #[.bool n_pa, .slice o_pa k_pa c_pa, .bool n_pb, .slice o_pb k_pb c_pb] 26 :: (ds3 ++ bs)) hd (p := k + 1 + q) (K := W) (by rw [len_mkM]; omega) (by rw [mkM_row (by omega)]; simp)
        have LO : Lst wr w0.heap.size 28 1 (.slice o n c) n _ := hs.1.1.1
        obtain ⟨gO, curO, rfl, xO, hcO⟩ := LO.box (by omega)
        have eI := hcO _ _ hvi
        have hcap := LO.capn
        obtain rfl : oT = some ⟨gO, k + 1, none⟩ := by
          have := HT.out
          rw [if_neg (by omega)] at this
          rw [← this]; simp
        clear LO hcO HT
        refine wp_seq_k ?_
        intro K14 hK14
        refine rg [0] ?_
        refine sq ?_
        refine .r0 ?_
        apply wpSq_end
        refine hK14 _ _ ?_
        refine wp_seq_k ?_
        intro K15 hK15
        refine ct ?_
        refine wp_skip ?_
        refine hK15 _ _ ?_
        refine wp_seq_k ?_
        intro K16 hK16
        refine wp_block ?_
        refine wp_seq_k ?_
        intro K17 hK17
        refine rg [0, 1, 2] ?_
        refine sq ?_
        refine .r0 ?_
        refine sq ?_
        refine .r1 (xO.cell _ eI) ?_
        refine sq ?_
        refine .mv ?_
        apply wpSq_end
        refine hK17 _ _ ?_
        refine wp_seq_k ?_
        intro K18 hK18
        refine rg [0, 1, 2] ?_
        refine sq ?_
        refine .mv ?_
        refine sq ?_
        refine .r0 ?_
        refine sq ?_
        refine .mv ?_
        apply wpSq_end
        refine hK18 _ _ ?_
        refine wp_block ?_
        have hd7 := hs.2.1
        go_loopg [16] (W - (k + 1)) (fun kz s16 wr => ∃ (j : Nat) (rs : List Rw), s16 = .int .i64 (j : Int) ∧ j + kz = W ∧ k + 1 ≤ j ∧ rs.length = n ∧ RD wr rs (mkM n W (Elm k A2 F2 (k + 1 + q) j)) ∧ (rs.map (·.v))[k + 1 + q]? = some (.slice oi W ci) ∧ ZC wr (.agg #[.bool n_pa, .slice o_pa k_pa c_pa]) P.1 ∧ ZC wr (.agg #[.bool n_pb, .slice o_pb k_pb c_pb]) P.2 ∧ GD wr xs (pvs A k) ∧ DivF wr f3 caps3 ds3 (Dt.det k A2) ∧ KpF w wr ∧
          St w0 (ls w0.heap.size 28 1 (.slice (some ⟨gO, 0, none⟩) n c) n (rs.map (·.v)) :: bx pt #[.slice (some ⟨gO, 0, none⟩) n c, .int .i64 (h : Int), .int .i64 (m : Int), .bool odd2] 77 :: ls w0.heap.size 26 4 (.slice (some ⟨gL, 0, none⟩) k c9) k xs :: bx p_b1 #[.bool n_pa, .slice o_pa k_pa c_pa, .bool n_pb, .slice o_pb k_pb c_pb] 26 :: ((ds3 ++ bs) ++ rs.map (Rw.e w0.heap.size))) wr)
        case atStart => exact ⟨k + 1, rs, by rfl, by omega, Nat.le_refl _, hrl, hd, hvi, z5, z6, hL9, hdv, kk, hs⟩
        case round =>
        clear hrl hvi
        clear z5 z6 hL9 hd kk hdv xO hs
        obtain ⟨j, rs, rfl, hjW, hkj, hrl, hd, hri, z5, z6, hL9, hdv, kk, hs⟩ := hrel
        have HRI := hide hri
        clear hri
        have Lz5 := hide LP.out.1
        have Lz6 := hide LP.out.2
        by_cases hj : j < W
        · have HJ := hide hj
          obtain ⟨a, gp, cp, xp, b, gq, cq, xq, r2, rfl, hab, hvp, hvq, hxp, hxq, hs⟩ := hs.rows2 (bs := bx pt #[.slice (some ⟨gO, 0, none⟩) n c, .int .i64 (h : Int), .int .i64 (m : Int), .bool odd2] 77 :: ls w0.heap.size 26 4 (.slice (some ⟨gL, 0, none⟩) k c9) k xs :: bx p_b1 #[.bool n_pa, .slice o_pa k_pa c_pa, .bool n_pb, .slice o_pb k_pb c_pb] 26 :: (ds3 ++ bs)) hd (p := k) (q := k + 1 + q) (K := W) (by omega) (by rw [len_mkM]; exact HI.out) (by rw [mkM_row HKN.out]; simp) (by rw [mkM_row HI.out]; simp) (by omega)
          have hri := HRI.out
          rw [hvq] at hri
          simp only [Option.some.injEq, Value.slice.injEq, true_and] at hri
          obtain ⟨rfl, rfl⟩ := hri
          have LO : Lst wr w0.heap.size 28 1 (.slice (some ⟨gO, 0, none⟩) n c) n _ := hs.1.2.2.1.1
          obtain ⟨gO', curO, eO', xO, hcO⟩ := LO.box (by have := HI.out; omega)
          simp only [Option.some.injEq, Addr.mk.injEq, and_true] at eO'
          obtain rfl : gO = gO' := eO'
          have eK := hcO _ _ hvp
          have LQ : Lst wr w0.heap.size 26 4 (.slice (some ⟨gq, 0, none⟩) W cq) W xq := hs.1.1.1
          obtain ⟨gq', curQ, eQ, xQ, hcQ⟩ := LQ.box (by omega)
          simp only [Option.some.injEq, Addr.mk.injEq, and_true] at eQ
          obtain rfl : gq = gq' := eQ
          have LPr : Lst wr w0.heap.size 26 4 (.slice (some ⟨gp, 0, none⟩) W cp) W xp := hs.1.2.1.1
          obtain ⟨gp', curP, eP, xP, hcP⟩ := LPr.box (by omega)
          simp only [Option.some.injEq, Addr.mk.injEq, and_true] at eP
          obtain rfl : gp = gp' := eP
          have hxq2 := hxq
          rw [mkM_row HI.out] at hxq2
          rw [mkM_row HKN.out] at hxp
          obtain ⟨a1, a2, a3, a4, a5, a6, a7, a8, e1, e2, e3, e4, x1, x2⟩ := hxq2.els j (by simpa using hj)
          obtain ⟨b1, b2, b3, b4, b5, b6, b7, b8, e5, e6, e7, e8, y1, y2⟩ := hxq2.els k (by simpa using HKW.out)
          obtain ⟨d1, d2, d3, d4, d5, d6, d7, d8, e9, e10, e11, e12, y3, y4⟩ := hxp.els j (by simpa using hj)
          rw [show ((List.range W).map (Elm k A2 F2 (k + 1 + q) j (k + 1 + q)))[j]'(by simpa using hj) = F2 (k + 1 + q) j by simp [Elm_here]] at x1 x2
          rw [show ((List.range W).map (Elm k A2 F2 (k + 1 + q) j (k + 1 + q)))[k]'(by simpa using HKW.out) = F2 (k + 1 + q) k by simp [Elm_k]] at y1 y2
          rw [show ((List.range W).map (Elm k A2 F2 (k + 1 + q) j k))[j]'(by simpa using hj) = F2 k j by simp [Elm_up]] at y3 y4
          have EE := hide (Elm_div HA2.out HI.out hj (by omega) (by omega) HKN.out HKW.out HDT.out)
          have LX : zl L (F2 (k + 1 + q) j) := by rw [HA2.out _ HI.out j hj (by omega) (by omega)]; exact HB2.out k (by omega) _ HI.out j hj
          have LY : zl L (F2 (k + 1 + q) k) := by rw [HA2.out _ HI.out k HKW.out (by omega) (by omega)]; exact HB2.out k (by omega) _ HI.out k HKW.out
          have LU : zl L (F2 k j) := by rw [HA2.out k HKN.out j hj (by omega) (by omega)]; exact HB2.out k (by omega) k HKN.out j hj
          replace x1 := x1.zn LX.1
          replace x2 := x2.zn LX.2
          replace y1 := y1.zn LY.1
          replace y2 := y2.zn LY.2
          replace y3 := y3.zn LU.1
          replace y4 := y4.zn LU.2
          replace e1 := hcQ _ _ e1
          replace e2 := hcQ _ _ e2
          replace e3 := hcQ _ _ e3
          replace e4 := hcQ _ _ e4
          replace e5 := hcQ _ _ e5
          replace e6 := hcQ _ _ e6
          replace e7 := hcQ _ _ e7
          replace e8 := hcQ _ _ e8
          replace e9 := hcP _ _ e9
          replace e10 := hcP _ _ e10
          replace e11 := hcP _ _ e11
          replace e12 := hcP _ _ e12
          obtain ⟨X, hX⟩ : ∃ X, F2 (k + 1 + q) j = X := ⟨_, rfl⟩
          obtain ⟨Y, hY⟩ : ∃ Y, F2 (k + 1 + q) k = Y := ⟨_, rfl⟩
          obtain ⟨U, hU⟩ : ∃ U, F2 k j = U := ⟨_, rfl⟩
          obtain ⟨V, hV⟩ : ∃ V, Dt.det k A2 = V := ⟨_, rfl⟩
          have HT := hide (Elm_step (k := k) (A := A2) (F := F2) (i := k + 1 + q) (j := j) (by omega) (by omega))
          have HTZ := hide (show True from trivial)
          obtain ⟨Z, hZ⟩ : ∃ Z, Dt.D (k + 1) A2 (k + 1 + q) j = Z := ⟨_, rfl⟩
          have E3 := EE.out
          rw [← HPE.out, hX, hY, hU, hV, hZ] at E3
          rw [hX] at x1 x2 LX
          rw [hY] at y1 y2 LY
          rw [hU] at y3 y4 LU
          rw [hV] at hdv
          have HTS := HT.out
          rw [hZ] at HTS
          have HS := hide HTS
          have HV := hide hV
          have E1 := hide (show X.1 * P.1 - X.2 * P.2 - (Y.1 * U.1 - Y.2 * U.2) = (mP V Z).1 from congrArg Prod.fst E3)
          have E2 := hide (show X.1 * P.2 + X.2 * P.1 - (Y.1 * U.2 + Y.2 * U.1) = (mP V Z).2 from congrArg Prod.snd E3)
          have LM := hide (show zl (L + L + 1) (mP X P) from zl_mP LX LP.out)
          have LN := hide (show zl (L + L + 1) (mP Y U) from zl_mP LY LU)
          have LZ := hide (show zl (L + L + 2) (mP V Z) by rw [← E3]; exact zl_sPx LM.out LN.out)
          have hent := hdv.ent
          unfold Ent1 at hent
          clear LO hcO hvp hvq LQ hcQ hxq2 LPr hcP hxp hX hY hU hV hZ EE HT E3 LX LY LU HTS HRI
          refine wp_seq_k ?_
          intro K19 hK19
          refine wp_seq_k ?_
          intro K20 hK20
          refine rg [0, 1, 2, 3] ?_
          refine sq ?_
          refine .mv ?_
          refine sq ?_
          refine .mv ?_
          refine sq ?_
          refine .r0 ?_
          refine sq ?_
          refine .r0 ?_
          apply wpSq_end
          refine hK20 _ _ ?_
          refine ct ?_
          refine wp_skip ?_
          refine hK19 _ _ ?_
          refine wp_seq_k ?_
          intro K21 hK21
          refine wp_block ?_
          refine wp_region_f4 [(0, false), (1, false), (2, false), (3, false), (4, false), (5, false), (6, false), (7, false), (8, false), (10, false), (11, false), (12, false), (13, false), (14, false), (15, false), (16, false), (17, false), (18, false), (19, false), (20, false), (9, true), (21, true), (22, true), (23, true), (24, false)] [25] [] (fun _ => default) [99, 99, 99, 99, 99, 99, 99, 0, 1, 99, 99, 99, 99, 0, 99, 99, 99, 2, 99, 99, 3, 99, 99, 99, 99, 99] [(25, 0)] (.c xQ (.c hs.g5 (.c xO (.c xP .n)))) fn fun w_8 n8 => ?_
          replace xO := xO.bl n8; replace xQ := xQ.bl n8; replace xP := xP.bl n8; replace hs := hs.bl n8
          refine fmv ?_
          refine fmv ?_
          refine fmv ?_
          refine fmv ?_
          refine fmv ?_
          refine fmv ?_
          refine f0 ?_
          apply wpFl_ld rfl rfl; (case h1 => intro w' hC K hK; have c0 := Bs.cell hC ((j * 4)) e1; have c1 := Bs.cell hC ((j * 4) + 1) e2; have c2 := Bs.cell hC ((j * 4) + 2) e3; have c3 := Bs.cell hC ((j * 4) + 3) e4; go_big_op; exact hK); iterate 4 kernel_rfl
          refine f4 ?_
          refine fmv ?_
          refine fmv ?_
          refine f0 ?_
          apply wpFl_ld rfl rfl; (case h1 => intro w' hC K hK; have c0 := Bs.cell hC ((k * 4)) e5; have c1 := Bs.cell hC ((k * 4) + 1) e6; have c2 := Bs.cell hC ((k * 4) + 2) e7; have c3 := Bs.cell hC ((k * 4) + 3) e8; go_big_op; exact hK); iterate 4 kernel_rfl
          refine fmv ?_
          refine fmv ?_
          refine f0 ?_
          apply wpFl_ld rfl rfl; (case h1 => intro w' hC K hK; have c0 := Bs.cell hC (k) eK; go_big_op; exact hK); iterate 4 kernel_rfl
          refine fmv ?_
          refine f0 ?_
          apply wpFl_ld rfl rfl; (case h1 => intro w' hC K hK; have c0 := Bs.cell hC ((j * 4)) e9; have c1 := Bs.cell hC ((j * 4) + 1) e10; have c2 := Bs.cell hC ((j * 4) + 2) e11; have c3 := Bs.cell hC ((j * 4) + 3) e12; go_big_op; exact hK); iterate 4 kernel_rfl
          refine fl fun w_9 n9 => ?_
          replace xO := xO.bl n9; replace xQ := xQ.bl n9; replace xP := xP.bl n9; replace hs := hs.bl n9
          intro K hK
          have k0_2 := (kb n8).b n9
          replace x1 := x1.k k0_2
          replace x2 := x2.k k0_2
          replace z5 := z5.k k0_2
          replace z6 := z6.k k0_2
          go_big_op
          go_fit (gMul_any (.mk' x1 x2) (.mk' (z5.zn Lz5.out) (z6.zn Lz6.out)) HL4.out HL4.out HL4.out HL4.out)
          rintro e w_10 ⟨_, rfl, ⟨n_fa, o_fa, k_fa, c_fa, n_fb, o_fb, k_fb, c_fb, rfl, f1, f2⟩, hb_10⟩
          replace xO := xO.bl hb_10; replace xQ := xQ.bl hb_10; replace xP := xP.bl hb_10; replace hs := hs.bl hb_10
          have Lf1 := hide (f1.lenOf (LM.out.1))
          have Lf2 := hide (f2.lenOf (LM.out.2))
          refine hK _ _ rfl ⟨hb_10, (And.intro xQ (And.intro hs.g5 (And.intro xO (And.intro xP trivial))))⟩ ?_
          clear hK K
          refine fl fun w_11 n11 => ?_
          replace xO := xO.bl n11; replace xQ := xQ.bl n11; replace xP := xP.bl n11; replace hs := hs.bl n11
          intro K hK
          have k0_4 := (k0_2.b hb_10).b n11
          replace y1 := y1.k k0_4
          replace y2 := y2.k k0_4
          replace y3 := y3.k k0_4
          replace y4 := y4.k k0_4
          go_big_op
          go_fit (gMul_any (.mk' y1 y2) (.mk' y3 y4) HL4.out HL4.out HL4.out HL4.out)
          rintro e w_12 ⟨_, rfl, ⟨n_ga, o_ga, k_ga, c_ga, n_gb, o_gb, k_gb, c_gb, rfl, g1, g2⟩, hb_12⟩
          replace xO := xO.bl hb_12; replace xQ := xQ.bl hb_12; replace xP := xP.bl hb_12; replace hs := hs.bl hb_12
          have Lg1 := hide (g1.lenOf (LN.out.1))
          have Lg2 := hide (g2.lenOf (LN.out.2))
          refine hK _ _ rfl ⟨hb_12, (And.intro xQ (And.intro hs.g5 (And.intro xO (And.intro xP trivial))))⟩ ?_
          clear hK K
          refine fl fun w_13 n13 => ?_
          replace xO := xO.bl n13; replace xQ := xQ.bl n13; replace xP := xP.bl n13; replace hs := hs.bl n13
          intro K hK
          have k3_6 := ((kb n11).b hb_12).b n13
          replace f1 := f1.k k3_6
          replace f2 := f2.k k3_6
          have k5_6 := kb n13
          replace g1 := g1.k k5_6
          replace g2 := g2.k k5_6
          go_big_op
          go_fit (gSub_any (.mk' (f1.zn Lf1.out) (f2.zn Lf2.out)) (.mk' (g1.zn Lg1.out) (g2.zn Lg2.out)) HL5.out HL5.out HL5.out HL5.out)
          rintro e w_14 ⟨_, rfl, ⟨n_sa, o_sa, k_sa, c_sa, n_sb, o_sb, k_sb, c_sb, rfl, s1, s2⟩, hb_14⟩
          replace xO := xO.bl hb_14; replace xQ := xQ.bl hb_14; replace xP := xP.bl hb_14; replace hs := hs.bl hb_14
          rw [E1.out] at s1
          rw [E2.out] at s2
          refine hK _ _ rfl ⟨hb_14, (And.intro xQ (And.intro hs.g5 (And.intro xO (And.intro xP trivial))))⟩ ?_
          clear hK K
          refine fl fun w_15 n15 => ?_
          replace xO := xO.bl n15; replace xQ := xQ.bl n15; replace xP := xP.bl n15; replace hs := hs.bl n15
          intro K hK
          have k0_8 := (((k0_4.b hb_12).b n13).b hb_14).b n15
          replace hdv := hdv.k k0_8
          have k7_8 := kb n15
          replace s1 := s1.k k7_8
          replace s2 := s2.k k7_8
          go_big_op
          go_fit (hdv.call (hs.sub (.cons _ (.cons _ (.cons _ (.cons _ (.cons _ (.cons _ ((List.sublist_append_left ds3 bs).trans (List.sublist_append_left _ _))))))))).1 (.mk' s1 s2) LZ.out HL6.out)
          rintro e w_16 ⟨_, rfl, ⟨n_ta, o_ta, k_ta, c_ta, n_tb, o_tb, k_tb, c_tb, rfl, t1, t2⟩, hb_16⟩
          replace xO := xO.bl hb_16; replace xQ := xQ.bl hb_16; replace xP := xP.bl hb_16; replace hs := hs.bl hb_16
          refine hK _ _ rfl ⟨hb_16, (And.intro xQ (And.intro hs.g5 (And.intro xO (And.intro xP trivial))))⟩ ?_
          clear hK K
          refine f0 ?_
          refine e0 hs ?_; clear hs; intro w_17 hs n17
          clear f1 f2 g1 g2 s1 s2
          replace xO := xO.bl n17; replace xQ := xQ.bl n17; replace xP := xP.bl n17
          refine tl ?_
          refine .i4 0 hs (j := j) (by exact HJ.out) ?_ (e := fun _ hB hO => (And.intro True.intro (And.intro (hs.g5.frame hO (hs.ne 5 0)) (And.intro (xO.frame hO (hs.ne 2 0)) (And.intro (xP.frame hO (hs.ne 1 0)) True.intro))))); clear hs; intro w_18 hs kp18 hd18 ho18 hw18; simp only [List.set_cons_zero] at hs
          clear xO
          clear xQ
          clear xP
          apply wpTail_end
          refine hK21 _ _ ?_
          refine rg [0, 1, 2] ?_
          refine sq ?_
          refine .mv ?_
          refine sq ?_
          refine .r0 ?_
          refine sq ?_
          refine .mv ?_
          apply wpSq_end
          have k0_11 := ((k0_8.b hb_16).b n17).t kp18
          replace hd := hd.k k0_11
          replace hxq := hxq.k k0_11
          have k9_11 := (kb n17).t kp18
          replace t1 := t1.k k9_11
          replace t2 := t2.k k9_11
          have k2_11 := ((((((((kb hb_10).b n11).b hb_12).b n13).b hb_14).b n15).b hb_16).b n17).t kp18
          replace z5 := z5.k k2_11
          replace z6 := z6.k k2_11
          replace hL9 := hL9.k k0_11
          have k8_11 := ((kb hb_16).b n17).t kp18
          replace hdv := hdv.k k8_11
          replace kk := kk.k k0_11
          refine ‹∀ (a' : Act) (w' : World), Handed _ _ a' w' → _› _ _ ?_
          have hs := hs.unrows2 (bs := bx pt #[.slice (some ⟨gO, 0, none⟩) n c, .int .i64 (h : Int), .int .i64 (m : Int), .bool odd2] 77 :: ls w0.heap.size 26 4 (.slice (some ⟨gL, 0, none⟩) k c9) k xs :: bx p_b1 #[.bool n_pa, .slice o_pa k_pa c_pa, .bool n_pb, .slice o_pb k_pb c_pb] 26 :: (ds3 ++ bs))
          rw [mkM_row HI.out] at hxq
          have hd := RD.set' (r1 := a ++ (⟨.slice (some ⟨gp, 0, none⟩) W cp, W, xp⟩ : Rw) :: b) (v := .slice (some ⟨gq, 0, none⟩) W cq) (n := W) (by simp) (GD.put t1 t2 hxq (q := j) (by simpa using HJ.out)) (by simpa using hd) hab
          rw [show ((Z.1, Z.2) : Int × Int) = Z from rfl, mkM_set HI.out, HS.out] at hd
          rw [← HV.out] at hdv
          go_roundg (gk - 1)
          case rel => exact ⟨j + 1, _, by rfl, by omega, by omega, by simpa using hrl, by simpa using hd, by rw [List.map_append, List.map_cons, List.map_append, List.map_cons, ← List.cons_append, ← List.append_assoc, List.getElem?_append_right (by simpa using Nat.le_of_eq hab)]; simp at hab ⊢; simp [← hab], z5, z6, hL9, hdv, kk, hs⟩
          case measure => omega
        · obtain rfl : W = j := by omega
          have HX := hide hj
          refine wp_seq_k ?_
          intro K19 hK19
          refine wp_seq_k ?_
          intro K20 hK20
          refine rg [0, 1, 2, 3] ?_
          refine sq ?_
          refine .mv ?_
          refine sq ?_
          refine .mv ?_
          refine sq ?_
          refine .r0 ?_
          refine sq ?_
          refine .r0 ?_
          apply wpSq_end
          refine hK20 _ _ ?_
          refine cf ?_
          refine wp_exit ?_
          refine hK16 _ _ ?_
          refine rg [0, 1] ?_
          refine sq ?_
          refine .r0 ?_
          refine sq ?_
          refine .mv ?_
          apply wpSq_end
          refine HO2 _ _ ?_
          go_roundg (g2 - 1)
          case rel => exact ⟨q + 1, rs, by rfl, by omega, hrl, by rw [show k + 1 + (q + 1) = k + 1 + q + 1 from rfl, ← Elm_row]; exact hd, z5, z6, hL9, hdv, kk, hs⟩
          case measure => omega
      · have hqe : k + 1 + q = n := by omega
        have HX := hide hq
        have HE := hide hqe
        clear hqe
        refine wp_seq_k ?_
        intro K14 hK14
        refine rg [0] ?_
        refine sq ?_
        refine .r0 ?_
        apply wpSq_end
        refine hK14 _ _ ?_
        refine wp_seq_k ?_
        intro K15 hK15
        refine cf ?_
        refine wp_exit ?_
        refine hK12 _ _ ?_
        refine rg [0, 1, 2, 3, 4] ?_
        refine sq ?_
        refine .mv ?_
        refine sq ?_
        refine .r4 hs.g3.f4 ?_
        refine sq ?_
        refine .al hs ?_; clear hs; intro p_b2 w_7 hs n7 kb_b2
        refine sq ?_
        have k0_1 := kb n7
        replace hL9 := hL9.k k0_1
        replace z5 := z5.k k0_1
        replace z6 := z6.k k0_1
        replace hL9 := hL9.snoc (.mk' z5 z6)
        refine .ap 3 hs hs.g0 ?_; clear hs; intro o_L_8 c_L_8 w_8 hs kp8 hw8; simp only [List.set_cons_succ, List.set_cons_zero] at hs
        refine sq ?_
        refine .mv ?_
        apply wpSq_end
        refine hK7 _ _ ?_
        refine rg [0, 1, 2] ?_
        refine sq ?_
        refine .mv ?_
        refine sq ?_
        refine .r0 ?_
        refine sq ?_
        refine .mv ?_
        apply wpSq_end
        have k0_2 := k0_1.t kp8
        replace hd := hd.k k0_2
        have k1_2 := kp8
        replace hL9 := hL9.k k1_2
        replace kk := kk.k k0_2
        refine HO _ _ ?_
        have hs := hs.sub (show List.Sublist (ls w0.heap.size 28 1 (.slice o n c) n (rs.map (·.v)) :: bx pt #[.slice o n c, .int .i64 (h : Int), .int .i64 (m : Int), .bool odd2] 77 :: _ :: (bs ++ rs.map (Rw.e w0.heap.size))) _ from .cons _ (.cons_cons _ (.cons_cons _ (.cons_cons _ (.cons _ (List.Sublist.append_right (List.sublist_append_right ds3 bs) _))))))
        go_roundg (g1 - 1)
        case rel => exact ⟨k + 1, A2, Elm k A2 F2 n (k + 1), odd2, rs, f3, caps3, _, _, _, by rfl, rfl, by rfl, by omega, hide (fun h => absurd h (by omega)), HQ2, hide Elm_end, hrl, by rw [← HE.out] at hd ⊢; exact hd, by rw [pvs_succ, ← pvs_congr HLD.out, ← Dt.D_diag, ← HPE.out]; exact hL9, kk, hs⟩
        case measure => omega
  · have HFin := hide hFin
    refine ct ?_
    refine wp_exit ?_
    refine hK5 _ _ ?_
    refine wp_seq_k ?_
    intro K11 hK11
    refine rg [0, 1] ?_
    refine sq ?_
    refine .mv ?_
    refine sq ?_
    refine .mv ?_
    apply wpSq_end
    refine hK11 _ _ ?_
    refine wp_ret ?_
    refine hSr _ _ _ ?_
    have k1_3 := (kb n3).o hd4 ho4
    replace hd2 := hd2.k k1_3
    have k0_3 := (kp2.b n3).o hd4 ho4
    replace hL9 := hL9.k k0_3
    replace kk := kk.k k0_3
    try dsimp only [Exit.then, Exit.inBlock]
    refine bodyPost_ret (v := (.slice o9 k c9)) (by simp [results, Tryz.results39, go_sem]) rfl ?_
    exact ⟨_, _, xs, k, _, _, _, rs2, rfl, hFin, HQ.out, hL9, HA.out, q1, hd2, (hs.sub (.cons _ (List.Sublist.refl _))).perm ((List.Perm.cons _ (List.Perm.swap _ _ _)).trans (List.Perm.swap _ _ _)), kk.kp⟩
end
open Dt in
/-- What an odd number of exchanges does. -/
def sgb (odd : Bool) (p : Int × Int) : Int × Int := if odd then (-p.1, -p.2) else p
theorem sgb_eq (odd : Bool) (p : Int × Int) : sgb odd p = if odd then -p else p := rfl
theorem swr_swp : swr = Dt.swp := rfl
theorem swr_lt {i k r m : Nat} (hi : i < m) (hk : k < m) (hr : r < m) : swr i k r < m := by unfold swr; split <;> (try split) <;> assumption
theorem swr_low {i k r : Nat} (hi : k ≤ i) (hr : r < k) : swr i k r = r := by unfold swr; rw [if_neg (by omega), if_neg (by omega)]
section
variable {k i j n W h m : Nat} {A A0 F : Nat → Nat → Int × Int} {odd : Bool}
theorem D_swr (hi : k ≤ i) (hj : k ≤ j) {r c : Nat} : Dt.D k (fun r c => A (swr i k r) (swr j k c)) r c = Dt.D k A (swr i k r) (swr j k c) := by
  unfold Dt.D
  refine Dt.det_congr fun x _ y _ => ?_
  have key : ∀ {i r x : Nat}, k ≤ i → swr i k (Dt.bord k r x) = Dt.bord k (swr i k r) x := fun {i r x} hi => by
    unfold Dt.bord
    by_cases h : x < k
    · rw [if_pos h, if_pos h, swr_low hi h]
    · rw [if_neg h, if_neg h]
  show A (swr i k (Dt.bord k r x)) (swr j k (Dt.bord k c y)) = _
  rw [key hi, key hj]
theorem det_swr (hi : k ≤ i) (hj : k ≤ j) {s : Nat} (hs : s ≤ k) : Dt.det s (fun r c => A (swr i k r) (swr j k c)) = Dt.det s A := Dt.det_congr fun x hx y hy => by
  rw [swr_low hi (by omega), swr_low hj (by omega)]
theorem det_swr2 (hi : i < n) (hj : j < n) (hk : k < n) (h : Dt.det n A = sgb odd (Dt.det n A0)) : Dt.det n (fun r c => A (swr i k r) (swr j k c)) = sgb (xo odd i j k) (Dt.det n A0) := by
  have e1 : Dt.det n (fun r c => A (swr i k r) (swr j k c)) = if j = k then Dt.det n (fun r c => A (swr i k r) c) else - Dt.det n (fun r c => A (swr i k r) c) := by
    by_cases e : j = k
    · subst e
      rw [if_pos rfl]
      refine Dt.det_congr fun r _ c _ => ?_
      have : swr j j c = c := by unfold swr; split <;> omega
      rw [this]
    · rw [if_neg e]; exact Dt.det_cols (A := fun r c => A (swr i k r) c) e hj hk
  have e2 : Dt.det n (fun r c => A (swr i k r) c) = if i = k then Dt.det n A else - Dt.det n A := by
    by_cases e : i = k
    · subst e
      rw [if_pos rfl]
      refine Dt.det_congr fun r _ c _ => ?_
      have : swr i i r = r := by unfold swr; split <;> omega
      rw [this]
    · rw [if_neg e]; exact (Dt.alt_det (R := Int × Int) (n := n)).swap e hi hk A
  rw [e1, e2, h]
  unfold xo
  simp only [sgb_eq]
  by_cases h1 : i = k <;> by_cases h2 : j = k <;> cases odd <;> simp [h1, h2] <;> grind
/-- A table at step k: rows and columns of A0 exchanged. -/
def Pmd (h m : Nat) (A0 A : Nat → Nat → Int × Int) : Prop := ∃ u u' v v' : Nat → Nat, (∀ i j, A i j = A0 (u i) (v j)) ∧ (∀ i, (i < h → u i < h ∧ u' i < h) ∧ (h ≤ i → u i = i) ∧ u (u' i) = i ∧ u' (u i) = i) ∧ ∀ i, (i < m → v i < m ∧ v' i < m) ∧ (m ≤ i → v i = i) ∧ v (v' i) = i ∧ v' (v i) = i
def QP (h m : Nat) (A0 : Nat → Nat → Int × Int) (k : Nat) (A : Nat → Nat → Int × Int) (odd : Bool) : Prop :=
  k ≤ h ∧ k ≤ m ∧ Dt.det k A ≠ 0 ∧ Pmd h m A0 A ∧ (h = m → Dt.det h A = sgb odd (Dt.det h A0))
def FinP (h m : Nat) (A0 : Nat → Nat → Int × Int) (k : Nat) (A : Nat → Nat → Int × Int) (odd : Bool) : Prop :=
  QP h m A0 k A odd ∧ ∀ i, k ≤ i → i < h → ∀ j, k ≤ j → j < m → Dt.D k A i j = 0
theorem swr_inv {i k r : Nat} : swr i k (swr i k r) = r := by rw [swr_swp]; exact Dt.swp_swp
theorem Pmd.swr (hp : Pmd h m A0 A) (hi : i < h) (hk : k < h) (hj : j < m) (hk2 : k < m) : Pmd h m A0 (fun r c => A (swr i k r) (swr j k c)) := by
  obtain ⟨u, u', v, v', hA, hu, hv⟩ := hp
  refine ⟨fun r => u (Go.Proofs.YtcoodkdalblalaaGreatDoor.swr i k r), fun r => Go.Proofs.YtcoodkdalblalaaGreatDoor.swr i k (u' r), fun c => v (Go.Proofs.YtcoodkdalblalaaGreatDoor.swr j k c), fun c => Go.Proofs.YtcoodkdalblalaaGreatDoor.swr j k (v' c), fun r c => hA _ _, fun r => ⟨fun hr => ⟨((hu _).1 (swr_lt hi hk hr)).1, swr_lt hi hk ((hu r).1 hr).2⟩, fun hr => ?_, ?_, ?_⟩, fun r => ⟨fun hr => ⟨((hv _).1 (swr_lt hj hk2 hr)).1, swr_lt hj hk2 ((hv r).1 hr).2⟩, fun hr => ?_, ?_, ?_⟩⟩
  · have : Go.Proofs.YtcoodkdalblalaaGreatDoor.swr i k r = r := by unfold Go.Proofs.YtcoodkdalblalaaGreatDoor.swr; rw [if_neg (by omega), if_neg (by omega)]
    simp only [this]; exact (hu r).2.1 hr
  · simp only [swr_inv]; exact (hu r).2.2.1
  · simp only [(hu _).2.2.2, swr_inv]
  · have : Go.Proofs.YtcoodkdalblalaaGreatDoor.swr j k r = r := by unfold Go.Proofs.YtcoodkdalblalaaGreatDoor.swr; rw [if_neg (by omega), if_neg (by omega)]
    simp only [this]; exact (hv r).2.1 hr
  · simp only [swr_inv]; exact (hv r).2.2.1
  · simp only [(hv _).2.2.2, swr_inv]
theorem one_ne : (1 : Int × Int) ≠ 0 := by decide
theorem QP.zero : QP h m A0 0 A0 false := ⟨Nat.zero_le _, Nat.zero_le _, one_ne, ⟨id, id, id, id, fun _ _ => rfl, fun i => ⟨fun h => ⟨h, h⟩, fun _ => rfl, rfl, rfl⟩, fun i => ⟨fun h => ⟨h, h⟩, fun _ => rfl, rfl, rfl⟩⟩, fun _ => rfl⟩
/-- A pivot brought to its place. -/
theorem QP.next (hq : QP h m A0 k A odd) (hi : k ≤ i) (hi2 : i < h) (hj : k ≤ j) (hj2 : j < m) (h0 : Dt.D k A i j ≠ 0) : QP h m A0 (k + 1) (fun r c => A (swr i k r) (swr j k c)) (xo odd i j k) := by
  obtain ⟨h1, h2, h3, h4, h5⟩ := hq
  refine ⟨by omega, by omega, ?_, h4.swr hi2 (by omega) hj2 (by omega), fun e => ?_⟩
  · rw [← Dt.D_diag, D_swr hi hj, swr_k, swr_k]; exact h0
  · subst e; exact det_swr2 hi2 hj2 (by omega) (h5 rfl)
theorem Agr.next (ha : Agr n W k A F) (hi : k ≤ i) (hi2 : i < n) (hj : k ≤ j) (hj2 : j < W) : Agr n W k (fun r c => A (swr i k r) (swr j k c)) (fun r c => F (swr i k r) (swr j k c)) := fun r hr c hc h1 h2 => by
  have g : ∀ {i r : Nat}, k ≤ i → k ≤ r → k ≤ swr i k r := fun {i r} hi hr => by unfold swr; split <;> (try split) <;> omega
  rw [D_swr hi hj]
  exact ha _ (swr_lt hi2 (by omega) hr) _ (swr_lt hj2 (by omega) hc) (g hi h1) (g hj h2)
/-- The table's rank, where no pivot is left. -/
theorem FinP.rk (hf : FinP h m A0 k A odd) : Dt.Rk h m A0 k := by
  obtain ⟨⟨h1, h2, h3, ⟨u, u', v, v', hA, hu, hv⟩, h5⟩, h6⟩ := hf
  have := Dt.rk_of (h := h) (w := m) h1 h2 h3 fun i hi j hj => by
    by_cases e : i < k
    · exact Dt.D_row0 e
    · by_cases e2 : j < k
      · exact Dt.D_col0 e2
      · exact h6 i (by omega) hi j (by omega) hj
  exact this.perm (u := u) (u' := u') (v := v) (v' := v') (fun i _ j _ => hA i j) (fun i hi => ⟨((hu i).1 hi).1, ((hu i).1 hi).2, (hu i).2.2.1⟩) (fun i hi => ⟨((hv i).1 hi).1, ((hv i).1 hi).2, (hv i).2.2.1⟩)
/-- A square one's determinant. -/
theorem FinP.det (hf : FinP n n A0 k A odd) : (k < n → Dt.det n A0 = 0) ∧ (k = n → Dt.det n A0 = sgb odd (Dt.det n A)) := by
  refine ⟨fun h => (FinP.rk hf).det0 noz one_ne h, fun e => ?_⟩
  have := hf.1.2.2.2.2 rfl
  rw [this]
  cases odd <;> simp [sgb]
/-- Bounds of minors of A0, and of the table's. -/
def MinB (n W L : Nat) (A : Nat → Nat → Int × Int) : Prop := ∀ (s : Nat) (f g : Nat → Nat), (∀ r, r < s → f r < n ∧ g r < W) → (∀ r q, r < q → q < s → f r ≠ f q) → zl L (Dt.det s fun i j => A (f i) (g j))
theorem Pmd.bd {L : Nat} (hB : MinB n W L A0) (hh : h ≤ n) (hm : m ≤ W) (hq : Pmd h m A0 A) : ∀ s i, i < n → ∀ j, j < W → zl L (Dt.D s A i j) := by
  obtain ⟨u, u', v, v', hA, hu, hv⟩ := hq
  intro s i hi j hj
  by_cases e : i < s
  · rw [Dt.D_row0 e]; exact zl_0 _
  by_cases e9 : j < s
  · rw [Dt.D_col0 e9]; exact zl_0 _
  · have hun : ∀ r, r < n → u r < n := fun r hr => by
      by_cases c : r < h
      · have := ((hu r).1 c).1; omega
      · rw [(hu r).2.1 (by omega)]; exact hr
    have hvn : ∀ r, r < W → v r < W := fun r hr => by
      by_cases c : r < m
      · have := ((hv r).1 c).1; omega
      · rw [(hv r).2.1 (by omega)]; exact hr
    have e2 : Dt.D s A i j = Dt.det (s + 1) fun r c => A0 (u (Dt.bord s i r)) (v (Dt.bord s j c)) := Dt.det_congr fun r _ c _ => hA _ _
    rw [e2]
    refine hB (s + 1) (fun r => u (Dt.bord s i r)) (fun c => v (Dt.bord s j c)) (fun r hr => ⟨hun _ (by unfold Dt.bord; split <;> omega), hvn _ (by unfold Dt.bord; split <;> omega)⟩) fun r q h1 h2 h3 => ?_
    have h4 := congrArg u' h3
    rw [(hu _).2.2.2, (hu _).2.2.2] at h4
    unfold Dt.bord at h4
    split at h4 <;> split at h4 <;> omega
theorem QP.bd {L : Nat} (hB : MinB n W L A0) (hh : h ≤ n) (hm : m ≤ W) (hq : QP h m A0 k A odd) : ∀ s, s ≤ k → ∀ i, i < n → ∀ j, j < W → zl L (Dt.D s A i j) := fun s _ => hq.2.2.2.1.bd hB hh hm s
end
section
variable {w w0 : World} {pt n c h m W L : Nat} {odd : Bool} {o : Option Addr} {rs : List Rw} {bs : List En} {A0 F : Nat → Nat → Int × Int} {va : Value} {x y : Int}
theorem pivS_pivot (kb_bt : Hid (w0.heap.size ≤ pt)) (hh : h ≤ n) (hm : m ≤ W) (hn : n ≤ 1000) (hW : W ≤ 3000000) (hB : MinB n W L A0) (hL : L ≤ 3300000) :
    PivS w0 41 #[.pointer (some ⟨pt, 0, none⟩)] #[] o n c pt h m W (QP h m A0) (FinP h m A0) := by
  intro k w A F odd rs bs _ hQ hA hl hd hst
  show Calls _ _ #[.pointer (some ⟨pt, 0, none⟩), .int .i64 (k : Int)] w _
  refine (pivot_any hst kb_bt hd hh hm hQ.1 hQ.2.1 hn hW (l := L) (fun i h1 h2 j h3 h4 => by rw [hA i (by omega) j (by omega) h1 h3]; exact hQ.bd hB hh hm k (Nat.le_refl _) i (by omega) j (by omega)) (by omega)).mono ?_
  rintro e w' ⟨v, fd, rs', F', odd', p, rfl, h1, hp, h2, h3, h4, h5⟩
  rcases hp with ⟨rfl, i, j, hi, hi2, hj, hj2, h0, rfl, rfl, rfl⟩ | ⟨rfl, rfl, rfl, rfl, hz⟩
  · have e1 := hA i (by omega) j (by omega) hi hj
    have h9 : Dt.D k A i j ≠ 0 := by rw [← e1]; exact h0
    refine ⟨v, true, rs', fun r c => A (swr i k r) (swr j k c), _, _, F i j, rfl, h1, .inl ⟨rfl, by omega, by omega, hQ.next hi hi2 hj hj2 h9, hA.next hi (by omega) hj (by omega), ?_, ?_, fun s hs => det_swr hi hj hs⟩, h2, h3, h4, h5⟩
    · rw [D_swr hi hj, swr_k, swr_k]; exact e1
    · rw [det_swr hi hj (Nat.le_refl _)]; exact hQ.2.2.1
  · exact ⟨v, false, rs', A, _, _, (0, 0), rfl, h1, .inr ⟨rfl, ⟨hQ, fun i h1 h2 j h3 h4 => by rw [← hA i (by omega) j (by omega) h1 h3]; exact hz i h1 h2 j h3 h4⟩, rfl, rfl, rfl⟩, h2, h3, h4, h5⟩
set_option maxRecDepth 20000 in
theorem entP_pivot : EntP 41 #[.pointer (some ⟨pt, 0, none⟩)] #[] := fun _ _ => by kernel_rfl
set_option maxHeartbeats 4000000 in
set_option maxRecDepth 20000 in
theorem pivots_any (hst : St w0 (ls w0.heap.size 28 1 (.slice o n c) n (rs.map (·.v)) :: bx pt #[.slice o n c, .int .i64 (h : Int), .int .i64 (m : Int), .bool false] 77 :: (bs ++ rs.map (Rw.e w0.heap.size))) w)
    (kb_bt : Hid (w0.heap.size ≤ pt)) (hrl : rs.length = n) (hd : RD w rs (mkM n W A0)) (hh : h ≤ n) (hm : m ≤ W) (hn : n ≤ 1000) (hW : W ≤ 3000000) (hB : MinB n W L A0) (hL : L ≤ 3300000) :
    Calls Tryz.prog 21 #[.pointer (some ⟨pt, 0, none⟩)] w fun e w' => ∃ o9 c9 xs r A' F' odd' rs', e = .returned (.slice o9 r c9) ∧ FinP h m A0 r A' odd' ∧ GD w' xs (pvs A' r) ∧ Agr n W r A' F' ∧ rs'.length = n ∧ RD w' rs' (mkM n W F') ∧
      St w0 (ls w0.heap.size 26 4 (.slice o9 r c9) r xs :: ls w0.heap.size 28 1 (.slice o n c) n (rs'.map (·.v)) :: bx pt #[.slice o n c, .int .i64 (h : Int), .int .i64 (m : Int), .bool odd'] 77 :: (bs ++ rs'.map (Rw.e w0.heap.size))) w' ∧ Kp w w' := by
  have kk := KpF.r w
  have HPV := hide (pivS_pivot (o := o) (c := c) kb_bt hh hm hn hW hB hL)
  have HB := hide (fun k A odd (hq : QP h m A0 k A odd) => hq.bd hB hh hm)
  have HAg := hide (show Agr n W 0 A0 A0 from fun i _ j _ _ _ => Dt.D_0.symm)
  clear hB
  go_enter Tryz.func21, Tryz.ntmps21
  have hs := hst
  clear hst
  refine wp_seq_k ?_
  intro K1 hK1
  refine rg [0] ?_
  refine sq ?_
  refine .mv ?_
  apply wpSq_end
  refine hK1 _ _ ?_
  refine wp_seq_k ?_
  intro K2 hK2
  refine rg [0, 1, 2, 3, 4, 5, 6, 7] ?_
  refine sq ?_
  refine .mv ?_
  refine sq ?_
  refine .r0 ?_
  refine sq ?_
  refine .r0 ?_
  refine sq ?_
  refine .r4 hs.g1.f4 ?_
  refine sq ?_
  refine .mv ?_
  refine sq ?_
  refine .r0 ?_
  refine sq ?_
  intro K hK
  go_big_op
  go_fit (eliminate_any hs kb_bt entP_pivot HPV.out Has.nil QP.zero HAg.out hrl hd hn hW HB.out hL)
  have bb1 := hs.b
  rintro e w_1 ⟨o9, c9, xs, r, A2, F2, odd2, rs2, rfl, hF, hQ9, hL9, hA2, hl2, hd2, hs', kp1⟩
  clear hs; have hs := hs'; clear hs'
  have bc1 := hs.b
  clear bb1 bc1
  refine hK _ _ rfl trivial ?_
  clear hK K
  refine sq ?_
  refine .mv ?_
  apply wpSq_end
  refine hK2 _ _ ?_
  refine wp_ret ?_
  have k0_1 := kp1
  replace kk := kk.k k0_1
  try dsimp only [Exit.then, Exit.inBlock]
  refine bodyPost_ret (v := (.slice o9 r c9)) (by simp [results, Tryz.results21, go_sem]) rfl ?_
  exact ⟨_, _, xs, r, A2, F2, odd2, rs2, rfl, hF, hL9, hA2, hl2, hd2, hs, kk.kp⟩
set_option maxHeartbeats 4000000 in
set_option maxRecDepth 20000 in
theorem dsigned_any (xt : Bs w pt #[.slice o n c, .int .i64 (h : Int), .int .i64 (m : Int), .bool odd] 77) (ha : PC w va x y) (hx : zl L (x, y)) (hL : L ≤ 3300000) :
    Calls Tryz.prog 23 #[.pointer (some ⟨pt, 0, none⟩), va] w fun e w' => ∃ r, e = .returned r ∧ PC w' r (sgb odd (x, y)).1 (sgb odd (x, y)).2 ∧ Below w.heap.size w w' := by
  have Lha1 := hide hx.1
  have Lha2 := hide hx.2
  cases odd
  · show Calls _ _ _ w fun e w' => ∃ r, e = .returned r ∧ PC w' r x y ∧ _
    obtain ⟨n_1a, o_1a, k_1a, c_1a, n_1b, o_1b, k_1b, c_1b, rfl, ha1, ha2⟩ := ha
    go_enter Tryz.func23, Tryz.ntmps23
    have hs := St.nil w
    have lt_bt := xt.lt
    have xtz := xt
    refine wp_seq_k ?_
    intro K1 hK1
    refine rg [0, 1] ?_
    refine sq ?_
    refine .al hs ?_; clear hs; intro p_b1 w_1 hs n1 kb_b1
    replace xt := xt.bl n1
    refine sq ?_
    refine .al hs ?_; clear hs; intro p_b2 w_2 hs n2 kb_b2
    replace xt := xt.bl n2
    apply wpSq_end
    refine hK1 _ _ ?_
    refine wp_seq_k ?_
    intro K2 hK2
    refine wp_seq_k ?_
    intro K3 hK3
    refine rg [0, 1, 2, 3] ?_
    refine sq ?_
    refine .mv ?_
    refine sq ?_
    refine .r0 ?_
    refine sq ?_
    refine .r0 ?_
    refine sq ?_
    refine .r4 xt.f4 ?_
    apply wpSq_end
    refine hK3 _ _ ?_
    refine cf ?_
    refine wp_skip ?_
    refine hK2 _ _ ?_
    refine wp_seq_k ?_
    intro K4 hK4
    refine rg [0, 1] ?_
    refine sq ?_
    refine .r4 hs.g1.f4 ?_
    refine sq ?_
    refine .s4 hs.g0 (fun _ => hs.u0 kb_b2) ?_; clear hs; intro w_3 hs hd3 ho3
    apply wpSq_end
    refine hK4 _ _ ?_
    refine wp_ret ?_
    try dsimp only [Exit.then, Exit.inBlock]
    obtain ⟨r0_0, r0_1, r0_2, r0_3⟩ := hs.g0.f4
    refine bodyPost_ret (v := (.agg #[.bool n_1a, .slice o_1a k_1a c_1a, .bool n_1b, .slice o_1b k_1b c_1b])) (by simp [results, Tryz.results23, go_sem, r0_0, r0_1, r0_2, r0_3]) rfl ?_
    have k0_3 := ((kb n1).b n2).o hd3 ho3
    replace ha1 := ha1.k k0_3
    replace ha2 := ha2.k k0_3
    exact ⟨_, rfl, .mk' ha1 ha2, hs.b⟩
  · show Calls _ _ _ w fun e w' => ∃ r, e = .returned r ∧ PC w' r (-x) (-y) ∧ _
    obtain ⟨n_1a, o_1a, k_1a, c_1a, n_1b, o_1b, k_1b, c_1b, rfl, ha1, ha2⟩ := ha
    go_enter Tryz.func23, Tryz.ntmps23
    have hs := St.nil w
    have lt_bt := xt.lt
    have xtz := xt
    refine wp_seq_k ?_
    intro K1 hK1
    refine rg [0, 1] ?_
    refine sq ?_
    refine .al hs ?_; clear hs; intro p_b1 w_1 hs n1 kb_b1
    replace xt := xt.bl n1
    refine sq ?_
    refine .al hs ?_; clear hs; intro p_b2 w_2 hs n2 kb_b2
    replace xt := xt.bl n2
    apply wpSq_end
    refine hK1 _ _ ?_
    refine wp_seq_k ?_
    intro K2 hK2
    refine wp_seq_k ?_
    intro K3 hK3
    refine rg [0, 1, 2, 3] ?_
    refine sq ?_
    refine .mv ?_
    refine sq ?_
    refine .r0 ?_
    refine sq ?_
    refine .r0 ?_
    refine sq ?_
    refine .r4 xt.f4 ?_
    apply wpSq_end
    refine hK3 _ _ ?_
    refine ct ?_
    refine wp_seq_k ?_
    intro K4 hK4
    refine rg [0, 1, 2] ?_
    refine sq ?_
    refine .r4 hs.g1.f4 ?_
    refine sq ?_
    intro K hK
    have k0_2 := (kb n1).b n2
    replace ha1 := ha1.k k0_2
    replace ha2 := ha2.k k0_2
    go_big_op
    go_fit (gNeg_any (.mk' (ha1.zn Lha1.out) (ha2.zn Lha2.out)) (by omega) (by omega))
    rintro e w_3 ⟨_, rfl, ⟨n_ra, o_ra, k_ra, c_ra, n_rb, o_rb, k_rb, c_rb, rfl, r1, r2⟩, hb_3⟩
    replace hs := hs.bl hb_3
    refine hK _ _ rfl trivial ?_
    clear hK K
    refine sq ?_
    refine .s4 hs.g0 (fun _ => hs.u0 kb_b2) ?_; clear hs; intro w_4 hs hd4 ho4
    apply wpSq_end
    refine hK4 _ _ ?_
    refine wp_ret ?_
    try dsimp only [Exit.then, Exit.inBlock]
    obtain ⟨r0_0, r0_1, r0_2, r0_3⟩ := hs.g0.f4
    refine bodyPost_ret (v := (.agg #[.bool n_ra, .slice o_ra k_ra c_ra, .bool n_rb, .slice o_rb k_rb c_rb])) (by simp [results, Tryz.results23, go_sem, r0_0, r0_1, r0_2, r0_3]) rfl ?_
    have k3_4 := ko hd4 ho4
    replace r1 := r1.k k3_4
    replace r2 := r2.k k3_4
    exact ⟨_, rfl, .mk' r1 r2, hs.b⟩
end
/-- The table: ones beside M and below it. -/
def brd (n : Nat) (M : Nat → Nat → Int × Int) (r c : Nat) : Int × Int :=
  if r < n then (if c < n then M r c else Dt.one r (c - n)) else if c < n then Dt.one (r - n) c else 0
/-- What is left of M without row j and column i, with its sign. -/
def adjE (n : Nat) (M : Nat → Nat → Int × Int) (i j : Nat) : Int × Int := Dt.sg (i + j) * Dt.det (n - 1) fun r c => M (Dt.skip j r) (Dt.skip i c)
theorem sg_add {R : Type} [Lean.Grind.CommRing R] (a b : Nat) : (Dt.sg a * Dt.sg b : R) = Dt.sg (a + b) := by
  unfold Dt.sg
  rcases Nat.mod_two_eq_zero_or_one a with h | h <;> rcases Nat.mod_two_eq_zero_or_one b with h' | h'
  · rw [if_pos h, if_pos h', if_pos (by omega)]; grind
  · rw [if_pos h, if_neg (by omega), if_neg (by omega)]; grind
  · rw [if_neg (by omega), if_pos h', if_neg (by omega)]; grind
  · rw [if_neg (by omega), if_neg (by omega), if_pos (by omega)]; grind
section
variable {n i j k : Nat} {M : Nat → Nat → Int × Int}
theorem brd_D (hi : i < n) (hj : j < n) : Dt.D n (brd n M) (n + i) (n + j) = - adjE n M i j := by
  obtain ⟨m, rfl⟩ : ∃ m, n = m + 1 := ⟨n - 1, by omega⟩
  have e0 : brd (m + 1) M (m + 1 + i) (m + 1 + j) = 0 := by unfold brd; rw [if_neg (by omega), if_neg (by omega)]
  rw [Dt.D_col, e0, Dt.sm_one hi fun c hc hne => by
    have : brd (m + 1) M (m + 1 + i) c = 0 := by
      unfold brd Dt.one; rw [if_neg (by omega), if_pos hc, if_neg (by omega)]
    rw [this]; grind]
  have e1 : brd (m + 1) M (m + 1 + i) i = 1 := by unfold brd Dt.one; rw [if_neg (by omega), if_pos hi, if_pos (by omega)]
  rw [e1]
  unfold Dt.cofc
  have e2 : Dt.det (m + 1) (fun r c' => brd (m + 1) M r (Dt.bord (m + 1) (m + 1 + j) (Dt.skip i c'))) = Dt.sg (j + m) * Dt.det m fun r c => M (Dt.skip j r) (Dt.skip i c) := by
    rw [Dt.det, Dt.sm_one hj fun r hr hne => by
      have h1 : Dt.skip i m = m + 1 := by unfold Dt.skip; rw [if_neg (by omega)]
      have h2 : brd (m + 1) M r (Dt.bord (m + 1) (m + 1 + j) (Dt.skip i m)) = 0 := by
        rw [h1, show Dt.bord (m + 1) (m + 1 + j) (m + 1) = m + 1 + j by unfold Dt.bord; rw [if_neg (Nat.lt_irrefl _)]]; unfold brd Dt.one; rw [if_pos hr, if_neg (by omega), if_neg (by omega)]
      rw [h2]; grind]
    have h1 : Dt.skip i m = m + 1 := by unfold Dt.skip; rw [if_neg (by omega)]
    have h2 : brd (m + 1) M j (Dt.bord (m + 1) (m + 1 + j) (Dt.skip i m)) = 1 := by
      rw [h1, show Dt.bord (m + 1) (m + 1 + j) (m + 1) = m + 1 + j by unfold Dt.bord; rw [if_neg (Nat.lt_irrefl _)]]; unfold brd Dt.one; rw [if_pos hj, if_neg (by omega), if_pos (by omega)]
    rw [h2, Dt.det_congr (B := fun r c => M (Dt.skip j r) (Dt.skip i c)) fun r hr c hc => by
      have h3 : Dt.skip i c < m + 1 := by unfold Dt.skip; split <;> omega
      have h4 : Dt.skip j r < m + 1 := by unfold Dt.skip; split <;> omega
      unfold Dt.bord brd
      rw [if_pos h3, if_pos h4, if_pos h3]]
    grind
  rw [e2]
  unfold adjE
  have e3 : (Dt.sg (i + (m + 1)) * Dt.sg (j + m) : Int × Int) = - Dt.sg (i + j) := by
    rw [sg_add]
    unfold Dt.sg
    rcases Nat.mod_two_eq_zero_or_one (i + j) with h | h
    · rw [if_neg (by omega), if_pos h]
    · rw [if_pos (by omega), if_neg (by omega)]; grind
  rw [show m + 1 - 1 = m from rfl]
  have e4 : ∀ a b d x : Int × Int, a * b = -d → 1 * (a * (b * x)) + 0 * Dt.det (m + 1) (brd (m + 1) M) = -(d * x) := fun a b d x h => by
    have : a * (b * x) = (a * b) * x := by grind
    rw [this, h]; grind
  exact e4 _ _ _ _ e3
end
section
variable {n i j k p q : Nat} {A A0 : Nat → Nat → Int × Int} {odd : Bool}
/-- Two of the first n rows, and two of the first n columns, exchanged: a bordered minor turns its sign as the determinant does. -/
theorem D_swr2 (hi : i < n) (hj : j < n) (hk : k < n) (hp : n ≤ p) (hq : n ≤ q) (h : Dt.D n A p q = sgb odd (Dt.D n A0 p q)) : Dt.D n (fun r c => A (swr i k r) (swr j k c)) p q = sgb (xo odd i j k) (Dt.D n A0 p q) := by
  have hb : ∀ {i p r : Nat}, i < n → n ≤ p → r < n + 1 → swr i k (Dt.bord n p r) = Dt.bord n p (swr i k r) := fun {i p r} hi hp hr => by
    unfold Dt.bord
    by_cases c : r < n
    · rw [if_pos c, if_pos (swr_lt hi hk c)]
    · have e1 : swr i k r = r := by unfold swr; rw [if_neg (by omega), if_neg (by omega)]
      have e2 : swr i k p = p := by unfold swr; rw [if_neg (by omega), if_neg (by omega)]
      rw [if_neg c, e1, if_neg c, e2]
  have e1 : Dt.D n (fun r c => A (swr i k r) (swr j k c)) p q = Dt.det (n + 1) fun r c => (fun r c => A (Dt.bord n p r) (Dt.bord n q c)) (swr i k r) (swr j k c) := Dt.det_congr fun r hr c hc => by
    show A (swr i k (Dt.bord n p r)) (swr j k (Dt.bord n q c)) = _
    rw [hb hi hp hr, hb hj hq hc]
  rw [e1]
  exact det_swr2 (A0 := fun r c => A0 (Dt.bord n p r) (Dt.bord n q c)) (by omega) (by omega) (by omega) h
/-- A minor of more rows than the rank is 0. -/
theorem rk_minor {h w r s : Nat} {M : Nat → Nat → Int × Int} {f g : Nat → Nat} (hr : Dt.Rk h w M r) (hlt : r < s) (hfg : ∀ i, i < s → f i < h ∧ g i < w) : Dt.det s (fun i j => M (f i) (g j)) = 0 := by
  obtain ⟨f', g', hfg', _, C, p, hp, hC⟩ := hr
  have e := Dt.det_mul (n := s) (fun c j => if c < r then M (f' c) (g j) else 0) (fun i c => if c < r then C (f i) c else 0)
  rw [(Dt.alt_det (R := Int × Int) (n := s)).zero (A := fun c j => if c < r then M (f' c) (g j) else 0) (k := r) hlt (fun c _ => if_neg (Nat.lt_irrefl _)),
    Dt.det_congr (A := Dt.mapr s _ _) (B := fun i j => p * M (f i) (g j)) fun i hi j hj => by
      unfold Dt.mapr
      rw [hC _ (hfg i hi).1 _ (hfg j hj).2, Dt.sm_ext (r := r) (by omega) fun c hc _ => by simp only [if_neg (show ¬ c < r by omega)]; grind]
      exact Dt.sm_congr fun c hc => by simp only [if_pos hc],
    Dt.det_scale] at e
  have : Dt.pwr p s * Dt.det s (fun i j => M (f i) (g j)) = 0 := by rw [e]; grind
  exact (noz _ _ this).resolve_left (Dt.pwr_ne noz one_ne hp s)
/-- Two rows too few: nothing is left. -/
theorem adjE_0 {n r i j : Nat} {M : Nat → Nat → Int × Int} (hr : Dt.Rk n n M r) (hlt : r + 1 < n) (hi : i < n) (hj : j < n) : adjE n M i j = 0 := by
  unfold adjE
  rw [rk_minor (s := n - 1) (f := Dt.skip j) (g := Dt.skip i) hr (by omega) fun x hx => ⟨by unfold Dt.skip; split <;> omega, by unfold Dt.skip; split <;> omega⟩]
  grind
end
/-- Row j moved to the end. -/
def cyc (m j r : Nat) : Nat := if r < m then Dt.skip j r else j
theorem sg_succ {R : Type} [Lean.Grind.CommRing R] (a : Nat) : (Dt.sg (a + 1) : R) = - Dt.sg a := by
  unfold Dt.sg
  rcases Nat.mod_two_eq_zero_or_one a with h | h
  · rw [if_neg (by omega), if_pos h]
  · rw [if_pos (by omega), if_neg (by omega)]; grind
theorem det_cyc {m : Nat} : ∀ (d j : Nat) (M : Nat → Nat → Int × Int), j + d = m → Dt.det (m + 1) (fun r => M (cyc m j r)) = Dt.sg d * Dt.det (m + 1) M
  | 0, j, M, h => by
    rw [Dt.det_congr (B := M) fun r hr c _ => by
      unfold cyc Dt.skip
      by_cases e : r < m
      · rw [if_pos e, if_pos (by omega)]
      · rw [if_neg e, show j = r by omega]]
    show _ = (1 : Int × Int) * _
    grind
  | d + 1, j, M, h => by
    have h1 := det_cyc (m := m) d (j + 1) (fun r => M (Dt.swp j (j + 1) r)) (by omega)
    have h2 : Dt.det (m + 1) (fun r => M (cyc m j r)) = Dt.det (m + 1) fun r => M (Dt.swp j (j + 1) (cyc m (j + 1) r)) := Dt.det_congr fun r hr c _ => by
      have : cyc m j r = Dt.swp j (j + 1) (cyc m (j + 1) r) := by
        unfold cyc Dt.swp Dt.skip
        by_cases e : r < m
        · rw [if_pos e, if_pos e]
          by_cases e2 : r < j
          · have e4 : (if r < j + 1 then r else r + 1) = r := if_pos (by omega)
            rw [if_pos e2, e4, if_neg (by omega), if_neg (by omega)]
          · rw [if_neg e2]
            by_cases e3 : r = j
            · have e4 : (if r < j + 1 then r else r + 1) = r := if_pos (by omega)
              rw [e4, if_pos e3]; omega
            · have e4 : (if r < j + 1 then r else r + 1) = r + 1 := if_neg (by omega)
              rw [e4, if_neg (by omega), if_neg (by omega)]
        · rw [if_neg e, if_neg e, if_neg (by omega), if_pos rfl]
      rw [this]
    rw [h2, h1, (Dt.alt_det (R := Int × Int) (n := m + 1)).swap (by omega) (by omega) (by omega) M, sg_succ]
    grind
/-- M times its adjugate. -/
theorem adj_mulr {n i j : Nat} {M : Nat → Nat → Int × Int} (hi : i < n) (hj : j < n) : (Dt.sm n fun q => M i q * adjE n M q j) = if i = j then Dt.det n M else 0 := by
  obtain ⟨m, rfl⟩ : ∃ m, n = m + 1 := ⟨n - 1, by omega⟩
  have h1 : Dt.det (m + 1) (fun r => M (if r < m then Dt.skip j r else i)) = Dt.sm (m + 1) fun q => Dt.sg (q + m) * (M i q * Dt.det m fun r c => M (Dt.skip j r) (Dt.skip q c)) := by
    rw [Dt.det_row]
    refine Dt.sm_congr fun q _ => ?_
    rw [if_neg (Nat.lt_irrefl _), Dt.det_congr (B := fun r c => M (Dt.skip j r) (Dt.skip q c)) fun r hr c _ => by rw [if_pos hr]]
  have h2 : (Dt.sm (m + 1) fun q => M i q * adjE (m + 1) M q j) = Dt.sg (j + m) * Dt.det (m + 1) (fun r => M (if r < m then Dt.skip j r else i)) := by
    rw [h1, ← Dt.sm_mul]
    refine Dt.sm_congr fun q _ => ?_
    unfold adjE
    rw [show m + 1 - 1 = m from rfl]
    have e : (Dt.sg (j + m) * Dt.sg (q + m) : Int × Int) = Dt.sg (q + j) := by
      rw [sg_add]
      unfold Dt.sg
      rcases Nat.mod_two_eq_zero_or_one (q + j) with h | h
      · rw [if_pos (by omega), if_pos h]
      · rw [if_neg (by omega), if_neg (by omega)]
    rw [← e]; grind
  rw [h2]
  by_cases c : i = j
  · subst c
    rw [if_pos rfl]
    have h3 := det_cyc (m := m) (m - i) i M (by omega)
    unfold cyc at h3
    rw [h3]
    have e : (Dt.sg (i + m) * Dt.sg (m - i) : Int × Int) = 1 := by
      rw [sg_add]; unfold Dt.sg; rw [if_pos (by omega)]
    have e2 : ∀ a b x : Int × Int, a * b = 1 → a * (b * x) = x := fun a b x h => by
      have : a * (b * x) = (a * b) * x := by grind
      rw [this, h]; grind
    exact e2 _ _ _ e
  · rw [if_neg c]
    have h3 : Dt.det (m + 1) (fun r => M (if r < m then Dt.skip j r else i)) = 0 := by
      refine Dt.det_eq (i := if i < j then i else i - 1) (j := m) (by split <;> omega) (by omega) fun x _ => ?_
      rw [if_neg (Nat.lt_irrefl m)]
      have : (if (if i < j then i else i - 1) < m then Dt.skip j (if i < j then i else i - 1) else i) = i := by
        rw [if_pos (by split <;> omega)]
        unfold Dt.skip
        by_cases e : i < j
        · rw [if_pos e, if_pos e]
        · rw [if_neg e, if_neg (by omega)]; omega
      rw [this]
    rw [h3]; grind
def sN : Nat → (Nat → Nat) → Nat
  | 0, _ => 0
  | n + 1, f => sN n f + f n
theorem sN_succ (n : Nat) (f : Nat → Nat) : sN (n + 1) f = sN n f + f n := rfl
theorem sN_congr {n : Nat} {f g : Nat → Nat} (h : ∀ i, i < n → f i = g i) : sN n f = sN n g := by
  induction n with
  | zero => rfl
  | succ n ih => rw [sN, sN, ih fun i hi => h i (by omega), h n (by omega)]
theorem sN_one (n c : Nat) : sN n (fun _ => c) = n * c := by
  induction n with
  | zero => simp [sN]
  | succ n ih => rw [sN, ih, Nat.succ_mul]
theorem sN_add (n : Nat) (f g : Nat → Nat) : sN n (fun i => f i + g i) = sN n f + sN n g := by
  induction n with
  | zero => rfl
  | succ n ih => simp only [sN]; rw [ih]; omega
theorem sN_upd {n k : Nat} (hk : k < n) (b : Nat → Nat) : sN n (fun i => if i = k then 0 else b i) + b k = sN n b := by
  induction n with
  | zero => omega
  | succ n ih =>
    rw [sN, sN]
    by_cases e : k = n
    · subst e
      rw [if_pos rfl, sN_congr (g := b) fun i hi => if_neg (by omega)]; omega
    · have := ih (by omega)
      rw [if_neg (by omega)]; omega
theorem sN_inj {s n : Nat} {f b : Nat → Nat} (hf : ∀ r, r < s → f r < n) (hi : ∀ r q, r < q → q < s → f r ≠ f q) : sN s (fun i => b (f i)) ≤ sN n b := by
  induction s generalizing b with
  | zero => exact Nat.zero_le _
  | succ s ih =>
    have h1 := ih (b := fun i => if i = f s then 0 else b i) (fun r hr => hf r (by omega)) (fun r q h h' => hi r q h (by omega))
    rw [sN_congr (g := fun i => b (f i)) fun i h => if_neg (hi i s h (by omega))] at h1
    have h2 := sN_upd (hf s (by omega)) b
    rw [sN]; omega
theorem sN_skip {n i : Nat} (h : i ≤ n) (e : Nat → Nat) : sN n (fun r => e (Dt.skip i r)) + e i = sN (n + 1) e := by
  induction n with
  | zero =>
    have e0 : i = 0 := by omega
    subst e0
    simp [sN]
  | succ n ih =>
    by_cases c : i = n + 1
    · subst c
      rw [sN_succ (n + 1), sN_congr (g := e) fun r hr => by rw [show Dt.skip (n + 1) r = r by unfold Dt.skip; rw [if_pos hr]]]
    · have h1 := ih (by omega)
      rw [sN_succ (n + 1), sN_succ n, show Dt.skip i n = n + 1 by unfold Dt.skip; rw [if_neg (by omega)]]
      omega
def nrm (p : Int × Int) : Nat := p.1.natAbs + p.2.natAbs
theorem nrm_add (p q : Int × Int) : nrm (p + q) ≤ nrm p + nrm q := by
  show (p.1 + q.1).natAbs + (p.2 + q.2).natAbs ≤ _
  unfold nrm; omega
theorem nrm_mul (p q : Int × Int) : nrm (p * q) ≤ nrm p * nrm q := by
  show (p.1 * q.1 - p.2 * q.2).natAbs + (p.1 * q.2 + p.2 * q.1).natAbs ≤ _
  have h1 : (p.1 * q.1 - p.2 * q.2).natAbs ≤ p.1.natAbs * q.1.natAbs + p.2.natAbs * q.2.natAbs := by rw [← Int.natAbs_mul, ← Int.natAbs_mul]; omega
  have h2 : (p.1 * q.2 + p.2 * q.1).natAbs ≤ p.1.natAbs * q.2.natAbs + p.2.natAbs * q.1.natAbs := by rw [← Int.natAbs_mul, ← Int.natAbs_mul]; omega
  unfold nrm
  rw [Nat.add_mul, Nat.mul_add, Nat.mul_add]; omega
theorem nrm_sg (n : Nat) (p : Int × Int) : nrm (Dt.sg n * p) = nrm p := by
  unfold Dt.sg
  split
  · rw [show (1 : Int × Int) * p = p by grind]
  · rw [show (-1 : Int × Int) * p = -p by grind]
    show (-p.1).natAbs + (-p.2).natAbs = _
    unfold nrm; omega
theorem nrm_sm {n T : Nat} {f : Nat → Int × Int} (h : ∀ i, i < n → 64 * nrm (f i) ≤ T) : 64 * nrm (Dt.sm n f) ≤ n * T := by
  induction n with
  | zero => show 64 * nrm (0, 0) ≤ _; simp [nrm]
  | succ n ih =>
    rw [Dt.sm]
    have h1 := ih fun i hi => h i (by omega)
    have h2 := h n (by omega)
    have h3 := nrm_add (Dt.sm n f) (f n)
    rw [Nat.succ_mul n T]; omega
theorem det_nrm {s : Nat} {M : Nat → Nat → Int × Int} {e : Nat → Nat} (hs : s ≤ 64) (h : ∀ i, i < s → ∀ j, j < s → 64 * nrm (M i j) ≤ pw (e i)) : nrm (Dt.det s M) ≤ pw (sN s e) := by
  induction s generalizing M e with
  | zero => show nrm (1, 0) ≤ pw 0; exact Nat.le_refl 1
  | succ s ih =>
    rw [Dt.det]
    have h1 := nrm_sm (n := s + 1) (T := pw (sN (s + 1) e)) (f := fun i => Dt.sg (i + s) * (M i s * Dt.det s fun r => M (Dt.skip i r))) fun i hi => by
      have hd := ih (M := fun r => M (Dt.skip i r)) (e := fun r => e (Dt.skip i r)) (by omega) fun r hr j hj => h _ (by unfold Dt.skip; split <;> omega) j (by omega)
      rw [nrm_sg]
      refine Nat.le_trans (Nat.mul_le_mul_left 64 (nrm_mul _ _)) ?_
      rw [← sN_skip (Nat.le_of_lt_succ hi) e, Nat.add_comm, pw_add, ← Nat.mul_assoc]
      exact Nat.mul_le_mul (h i hi s (by omega)) hd
    have h2 : (s + 1) * pw (sN (s + 1) e) ≤ 64 * pw (sN (s + 1) e) := Nat.mul_le_mul_right _ hs
    omega
theorem zl_nrm {b : Nat} {p : Int × Int} (h : zl b p) : 64 * nrm p ≤ pw (b + 1) := by
  have h1 := Nat.lt_of_lt_of_le (lt_pw_dig p.1.natAbs) (pw_mono h.1)
  have h2 := Nat.lt_of_lt_of_le (lt_pw_dig p.2.natAbs) (pw_mono h.2)
  rw [pw_add, show pw 1 = 4294967296 from rfl]
  unfold nrm; omega
theorem nrm_zl {b : Nat} {p : Int × Int} (h : nrm p < pw b) : zl b p := by
  unfold nrm at h
  exact ⟨dig_length_le (by omega), dig_length_le (by omega)⟩
theorem minB_of {n W T : Nat} {A : Nat → Nat → Int × Int} {b : Nat → Nat} (hn : n ≤ 64) (hT : sN n b ≤ T) (hA : ∀ i, i < n → ∀ q, q < W → zl (b i) (A i q)) : MinB n W (T + 65) A := by
  intro s f g hfg hi
  have hf : ∀ r, r < s → f r < n := fun r hr => (hfg r hr).1
  have h1 : s ≤ n := by
    have := sN_inj (b := fun _ => 1) hf hi
    rw [sN_one, sN_one] at this; omega
  have h2 := det_nrm (s := s) (M := fun i j => A (f i) (g j)) (e := fun i => b (f i) + 1) (by omega) fun i hi j hj => zl_nrm (hA _ (hf i hi) _ (hfg j hj).2)
  rw [sN_add, sN_one] at h2
  have h3 := sN_inj (b := b) hf hi
  refine nrm_zl (Nat.lt_of_le_of_lt (Nat.le_trans h2 (pw_mono (show _ ≤ T + 64 by omega))) ?_)
  rw [show T + 65 = T + 64 + 1 from rfl, pw_add (T + 64), show pw 1 = 4294967296 from rfl]
  have := pw_pos (T + 64)
  omega
/-- All its numbers' digits together. -/
def Tot (T : Nat) (Ms : List (List (Int × Int))) : Prop := ∃ b : Nat → Nat, sN Ms.length b ≤ T ∧ ∀ i (hi : i < Ms.length), Bd (b i) Ms[i]
theorem Tot.minB {T n W : Nat} {Ms : List (List (Int × Int))} (h : Tot T Ms) (hn : Ms.length = n) (h64 : n ≤ 64) : MinB n W (T + 65) (at2 Ms) := by
  subst hn
  obtain ⟨b, hT, hb⟩ := h
  refine minB_of h64 hT fun i hi q hq => ?_
  have h0 : rw_ Ms i = Ms[i] := by simp [rw_, List.getD, hi]
  unfold at2
  rw [h0]
  rcases Nat.lt_or_ge q Ms[i].length with c | c
  · have : at1 Ms[i] q = Ms[i][q] := by simp [at1, List.getD, c]
    rw [this]; exact hb i hi _ (List.getElem_mem c)
  · have : at1 Ms[i] q = (0, 0) := by simp [at1, List.getD, c]
    rw [this]; exact zl_0 _
theorem det_nrmK {s : Nat} {M : Nat → Nat → Int × Int} {e : Nat → Nat} (hs : s ≤ 1000) (h : ∀ i, i < s → ∀ j, j < s → 1000 * nrm (M i j) ≤ pw (e i)) : nrm (Dt.det s M) ≤ pw (sN s e) := by
  induction s generalizing M e with
  | zero => show nrm (1, 0) ≤ pw 0; exact Nat.le_refl 1
  | succ s ih =>
    rw [Dt.det]
    have key : ∀ {n : Nat} {f : Nat → Int × Int} {T : Nat}, (∀ i, i < n → 1000 * nrm (f i) ≤ T) → 1000 * nrm (Dt.sm n f) ≤ n * T := by
      intro n f T h
      induction n with
      | zero => show 1000 * nrm (0, 0) ≤ _; simp [nrm]
      | succ n ih =>
        rw [Dt.sm]
        have h1 := ih fun i hi => h i (by omega)
        have h2 := h n (by omega)
        have h3 := nrm_add (Dt.sm n f) (f n)
        rw [Nat.succ_mul n T]; omega
    have h1 := key (n := s + 1) (T := pw (sN (s + 1) e)) (f := fun i => Dt.sg (i + s) * (M i s * Dt.det s fun r => M (Dt.skip i r))) fun i hi => by
      have hd := ih (M := fun r => M (Dt.skip i r)) (e := fun r => e (Dt.skip i r)) (by omega) fun r hr j hj => h _ (by unfold Dt.skip; split <;> omega) j (by omega)
      rw [nrm_sg]
      refine Nat.le_trans (Nat.mul_le_mul_left 1000 (nrm_mul _ _)) ?_
      rw [← sN_skip (Nat.le_of_lt_succ hi) e, Nat.add_comm, pw_add, ← Nat.mul_assoc]
      exact Nat.mul_le_mul (h i hi s (by omega)) hd
    have h2 : (s + 1) * pw (sN (s + 1) e) ≤ 1000 * pw (sN (s + 1) e) := Nat.mul_le_mul_right _ hs
    omega
theorem zl_nrmK {b : Nat} {p : Int × Int} (h : zl b p) : 1000 * nrm p ≤ pw (b + 1) := by
  have h1 := Nat.lt_of_lt_of_le (lt_pw_dig p.1.natAbs) (pw_mono h.1)
  have h2 := Nat.lt_of_lt_of_le (lt_pw_dig p.2.natAbs) (pw_mono h.2)
  rw [pw_add, show pw 1 = 4294967296 from rfl]
  unfold nrm; omega
theorem minB_ofK {n W T : Nat} {A : Nat → Nat → Int × Int} {b : Nat → Nat} (hn : n ≤ 1000) (hT : sN n b ≤ T) (hA : ∀ i, i < n → ∀ q, q < W → zl (b i) (A i q)) : MinB n W (T + 1001) A := by
  intro s f g hfg hi
  have hf : ∀ r, r < s → f r < n := fun r hr => (hfg r hr).1
  have h1 : s ≤ n := by
    have := sN_inj (b := fun _ => 1) hf hi
    rw [sN_one, sN_one] at this; omega
  have h2 := det_nrmK (s := s) (M := fun i j => A (f i) (g j)) (e := fun i => b (f i) + 1) (by omega) fun i hi j hj => zl_nrmK (hA _ (hf i hi) _ (hfg j hj).2)
  rw [sN_add, sN_one] at h2
  have h3 := sN_inj (b := b) hf hi
  refine nrm_zl (Nat.lt_of_le_of_lt (Nat.le_trans h2 (pw_mono (show _ ≤ T + 1000 by omega))) ?_)
  rw [show T + 1001 = T + 1000 + 1 from rfl, pw_add (T + 1000), show pw 1 = 4294967296 from rfl]
  have := pw_pos (T + 1000)
  omega
theorem sN_app {n m : Nat} {f : Nat → Nat} : sN (n + m) f = sN n f + sN m fun i => f (n + i) := by
  induction m with
  | zero => rfl
  | succ m ih => rw [show n + (m + 1) = n + m + 1 from rfl, sN, ih, sN]; omega
/-- Ones beside M, another matrix below it, and noughts. -/
def brdG (n K : Nat) (M B : Nat → Nat → Int × Int) (r c : Nat) : Int × Int :=
  if r < n then (if c < K then M r c else Dt.one r (c - K)) else if c < K then B (r - n) c else 0
theorem zl_one (r c : Nat) : zl 1 (Dt.one (R := Int × Int) r c) := by
  unfold Dt.one
  split
  · exact ⟨zlen_small8 (z := 1) (by decide), zlen_small8 (z := 0) (by decide)⟩
  · exact zl_0 1
section
variable {n K nb T D : Nat} {M B : Nat → Nat → Int × Int} {b d : Nat → Nat}
theorem minB_brd (hn : n + nb ≤ 1000) (hT : sN n b ≤ T) (hD : sN nb d ≤ D) (hM : ∀ i, i < n → ∀ q, q < K → zl (b i) (M i q)) (hB : ∀ i, i < nb → ∀ q, q < K → zl (d i) (B i q)) : MinB (n + nb) (K + n) (T + D + 2001) (brdG n K M B) := by
  have h := minB_ofK (n := n + nb) (W := K + n) (T := T + D + 1000) (A := brdG n K M B) (b := fun i => if i < n then b i + 1 else d (i - n) + 1) hn (by
    rw [sN_app, sN_congr (g := fun i => b i + 1) fun i hi => if_pos hi, sN_congr (n := nb) (g := fun i => d i + 1) fun i hi => by rw [if_neg (by omega), Nat.add_sub_cancel_left], sN_add, sN_add, sN_one, sN_one]
    omega) fun i hi q hq => by
      unfold brdG
      by_cases c : i < n
      · simp only [if_pos c]
        by_cases e : q < K
        · rw [if_pos e]; exact zl_up (hM i c q e) (by omega)
        · rw [if_neg e]; exact zl_up (zl_one _ _) (by omega)
      · simp only [if_neg c]
        by_cases e : q < K
        · rw [if_pos e]; exact zl_up (hB _ (by omega) q e) (by omega)
        · rw [if_neg e]; exact zl_0 _
  exact h
end
theorem brd_G {n : Nat} {M : Nat → Nat → Int × Int} : brd n M = brdG n n M Dt.one := rfl
/-- Adjugate's pivots: the last one may be 0. -/
def QA (n : Nat) (M : Nat → Nat → Int × Int) (k : Nat) (A : Nat → Nat → Int × Int) (odd : Bool) : Prop :=
  k ≤ n ∧ Pmd n n (brd n M) A ∧ (∀ p q, n ≤ p → n ≤ q → Dt.D n A p q = sgb odd (Dt.D n (brd n M) p q)) ∧ (k < n → QP n n (brd n M) k A odd)
def FinA (n : Nat) (M : Nat → Nat → Int × Int) (k : Nat) (A : Nat → Nat → Int × Int) (odd : Bool) : Prop :=
  k = n ∨ k + 1 < n ∧ FinP n n (brd n M) k A odd
section
variable {n k i j : Nat} {M A : Nat → Nat → Int × Int} {odd : Bool}
theorem QA.zero : QA n M 0 (brd n M) false := ⟨Nat.zero_le _, QP.zero.2.2.2.1, fun _ _ _ _ => rfl, fun _ => QP.zero⟩
theorem QA.next (hq : QA n M k A odd) (hi : k ≤ i) (hi2 : i < n) (hj : k ≤ j) (hj2 : j < n) (h0 : Dt.D k A i j ≠ 0) : QA n M (k + 1) (fun r c => A (swr i k r) (swr j k c)) (xo odd i j k) :=
  ⟨by omega, hq.2.1.swr hi2 (by omega) hj2 (by omega), fun p q hp hq' => D_swr2 hi2 hj2 (by omega) hp hq' (hq.2.2.1 p q hp hq'), fun _ => (hq.2.2.2 (by omega)).next hi hi2 hj hj2 h0⟩
/-- What stands below and beside at the end. -/
theorem FinA.adj (hf : FinA n M k A odd) (hq : QA n M k A odd) (hi : i < n) (hj : j < n) : (k = n → adjE n M i j = sgb odd (-(Dt.D n A (n + i) (n + j)))) ∧ (k ≠ n → adjE n M i j = 0) := by
  refine ⟨fun e => ?_, fun e => ?_⟩
  · rw [hq.2.2.1 _ _ (by omega) (by omega), brd_D hi hj]
    cases odd
    · show _ = - - _; grind
    · show _ = sgb true (-(sgb true (- _)))
      rw [sgb_eq, sgb_eq]; simp only [if_true]; grind
  · rcases hf with hf | ⟨h1, h2⟩
    · exact absurd hf e
    · have hr := h2.rk
      have hr2 : Dt.Rk n n M k := hr.perm (u := id) (u' := id) (v := id) (v' := id) (fun i hi j hj => by unfold brd; rw [if_pos hi, if_pos hj]; rfl) (fun i hi => ⟨hi, hi, rfl⟩) (fun i hi => ⟨hi, hi, rfl⟩)
      exact adjE_0 hr2 h1 hi hj
end
theorem sm_sumP (k : Nat) (f : Nat → Int × Int) : sumP k f = Dt.sm k f := by
  induction k with
  | zero => rfl
  | succ k ih => rw [sumP, Dt.sm, ih, aP_eq]
theorem cP_sm {k : Nat} {f : Nat → Int × Int} : cP (Dt.sm k f) = Dt.sm k fun i => cP (f i) := by rw [← sm_sumP, ← sm_sumP, cP_sum]
theorem cP_sg (n : Nat) : cP (Dt.sg n) = Dt.sg n := by unfold Dt.sg; split <;> rfl
theorem cP_mul (a b : Int × Int) : cP (a * b) = cP a * cP b := cP_mP
theorem cP_det {n : Nat} {A : Nat → Nat → Int × Int} : cP (Dt.det n A) = Dt.det n fun i j => cP (A i j) := by
  induction n generalizing A with
  | zero => rfl
  | succ n ih =>
    rw [Dt.det, Dt.det, cP_sm]
    exact Dt.sm_congr fun i _ => by rw [cP_mul, cP_mul, cP_sg, ih]
/-- The Gram matrix. -/
def gG (W : Nat) (M : Nat → Nat → Int × Int) (i j : Nat) : Int × Int := sumP W fun q => mP (M i q) (cP (M j q))
section
variable {W k : Nat} {M : Nat → Nat → Int × Int}
theorem gG_cP (i j : Nat) : cP (gG W M i j) = gG W M j i := by
  unfold gG
  rw [cP_sum]
  exact sumP_congr fun q _ => by rw [cP_mP, cP_cP, mP_comm]
theorem gG_real (k : Nat) : cP (Dt.det k (gG W M)) = Dt.det k (gG W M) := by
  rw [cP_det, Dt.det_congr (B := fun i c => gG W M c i) fun i _ j _ => gG_cP i j]
  exact Dt.det_tr (A := gG W M)
theorem real_2 {p : Int × Int} (h : cP p = p) : p.2 = 0 := by
  have : -p.2 = p.2 := congrArg Prod.snd h
  omega
/-- The number at row c of the combination. -/
def gcf (W : Nat) (M : Nat → Nat → Int × Int) (k c : Nat) : Int × Int := if c < k then Dt.cofc k (fun i j => gG W M j i) c k else Dt.det k (gG W M)
/-- A combination of the first k + 1 rows that stands upright on the first k. -/
def gU (W : Nat) (M : Nat → Nat → Int × Int) (k q : Nat) : Int × Int := sumP (k + 1) fun c => mP (gcf W M k c) (M c q)
theorem gU_dot (j : Nat) : (sumP W fun q => mP (gU W M k q) (cP (M j q))) = Dt.D k (gG W M) k j := by
  have e1 : (sumP W fun q => mP (gU W M k q) (cP (M j q))) = sumP (k + 1) fun c => mP (gcf W M k c) (gG W M c j) := by
    rw [sumP_congr (g := fun q => sumP (k + 1) fun c => mP (gcf W M k c) (mP (M c q) (cP (M j q)))) fun q _ => by
      unfold gU; rw [sumP_r]; exact sumP_congr fun c _ => mP_assoc]
    rw [sumP_comm]
    exact sumP_congr fun c _ => sumP_l.symm
  rw [e1, sumP, ← Dt.D_tr, Dt.D_col, sm_sumP, aP_eq]
  have e2 : Dt.det k (fun i j => gG W M j i) = Dt.det k (gG W M) := Dt.det_tr (A := gG W M)
  rw [e2]
  congr 1
  · exact Dt.sm_congr fun c hc => by rw [gcf, if_pos hc]; exact mP_comm
  · rw [gcf, if_neg (Nat.lt_irrefl _)]; exact mP_comm
theorem gU_low {j : Nat} (h : j < k) : (sumP W fun q => mP (gU W M k q) (cP (M j q))) = (0, 0) := by rw [gU_dot]; exact Dt.D_col0 h
theorem gU_top : (sumP W fun q => mP (gU W M k q) (cP (M k q))) = Dt.det (k + 1) (gG W M) := by rw [gU_dot, Dt.D_diag]
theorem gU_sq : (sumP W fun q => mP (gU W M k q) (cP (gU W M k q))) = mP (Dt.det k (gG W M)) (Dt.det (k + 1) (gG W M)) := by
  have e1 : (sumP W fun q => mP (gU W M k q) (cP (gU W M k q))) = sumP (k + 1) fun c => mP (cP (gcf W M k c)) (sumP W fun q => mP (gU W M k q) (cP (M c q))) := by
    rw [sumP_congr (g := fun q => sumP (k + 1) fun c => mP (cP (gcf W M k c)) (mP (gU W M k q) (cP (M c q)))) fun q _ => by
      rw [show cP (gU W M k q) = sumP (k + 1) fun c => mP (cP (gcf W M k c)) (cP (M c q)) by
        rw [gU, cP_sum]; exact sumP_congr fun c _ => cP_mP]
      rw [sumP_l]
      exact sumP_congr fun c _ => by rw [← mP_assoc, ← mP_assoc, mP_comm (a := gU W M k q)]]
    rw [sumP_comm]
    exact sumP_congr fun c _ => sumP_l.symm
  rw [e1, sumP, sumP_congr (g := fun _ => (0, 0)) fun c hc => by rw [gU_low hc, mP_0r], sumP_0, gU_top, gcf, if_neg (Nat.lt_irrefl _), gG_real]
  exact Prod.ext (by simp [aP]) (by simp [aP])
theorem lenS_nn {f : Nat → Int} (h : ∀ i, 0 ≤ f i) : ∀ k, 0 ≤ lenS k f
  | 0 => Int.le_refl 0
  | k + 1 => by have := lenS_nn h k; have := h k; rw [lenS]; omega
theorem lenS_0 {f : Nat → Int} (h : ∀ i, 0 ≤ f i) : ∀ {k}, lenS k f = 0 → ∀ i, i < k → f i = 0
  | 0, _, i, hi => absurd hi (Nat.not_lt_zero _)
  | k + 1, h0, i, hi => by
    rw [lenS] at h0
    have h1 := lenS_nn h k
    have h2 := h k
    by_cases e : i = k
    · subst e; omega
    · exact lenS_0 h (k := k) (by omega) i (by omega)
theorem sq_nn (a : Int) : 0 ≤ a * a := by rcases Int.le_total 0 a with h | h; exact Int.mul_nonneg h h; exact Int.mul_nonneg_of_nonpos_of_nonpos h h
theorem nP_nn (p : Int × Int) : 0 ≤ nP p := by
  have h1 := sq_nn p.1
  have h2 := sq_nn p.2
  unfold nP; omega
theorem nP_0 {p : Int × Int} (h : nP p = 0) : p = (0, 0) := by
  have h1 := sq_nn p.1
  have h2 := sq_nn p.2
  unfold nP at h
  have h3 : p.1 * p.1 = 0 := by omega
  have h4 : p.2 * p.2 = 0 := by omega
  exact Prod.ext (by rcases Int.mul_eq_zero.1 h3 with h | h <;> exact h) (by rcases Int.mul_eq_zero.1 h4 with h | h <;> exact h)
theorem gram_sq : (lenS W fun q => nP (gU W M k q)) = (Dt.det k (gG W M)).1 * (Dt.det (k + 1) (gG W M)).1 := by
  have h := congrArg Prod.fst (gU_sq (W := W) (M := M) (k := k))
  rw [dot_len] at h
  have h0 := real_2 (gG_real (W := W) (M := M) k)
  simp only [mP, h0] at h
  omega
/-- Behind one that is 0 all are. -/
theorem gram_0 (h : Dt.det k (gG W M) = 0) : Dt.det (k + 1) (gG W M) = 0 := by
  have h1 := gram_sq (W := W) (M := M) (k := k)
  rw [h, show ((0 : Int × Int)).1 = 0 from rfl, Int.zero_mul] at h1
  have h2 := lenS_0 (fun q => nP_nn _) h1
  rw [← gU_top, sumP_congr (g := fun _ => (0, 0)) fun q hq => by rw [nP_0 (h2 q hq), mP_0l], sumP_0]
  rfl
theorem gram_0s {m : Nat} (h : Dt.det k (gG W M) = 0) (hm : k ≤ m) : Dt.det m (gG W M) = 0 := by
  induction m with
  | zero => have : k = 0 := by omega
            subst this; exact h
  | succ m ih =>
    by_cases e : k = m + 1
    · subst e; exact h
    · exact gram_0 (ih (by omega))
end
theorem sm_comm {k n : Nat} {F : Nat → Nat → Int × Int} : (Dt.sm k fun i => Dt.sm n fun j => F i j) = Dt.sm n fun j => Dt.sm k fun i => F i j := by
  rw [← sm_sumP, ← sm_sumP]
  have h1 : (fun i => Dt.sm n fun j => F i j) = fun i => sumP n fun j => F i j := by funext i; rw [sm_sumP]
  have h2 : (fun j => Dt.sm k fun i => F i j) = fun j => sumP k fun i => F i j := by funext i; rw [sm_sumP]
  rw [h1, h2]; exact sumP_comm
theorem sm_r {n : Nat} {f : Nat → Int × Int} {a : Int × Int} : (Dt.sm n fun i => f i * a) = Dt.sm n f * a := by
  have : (fun i => f i * a) = fun i => a * f i := by funext i; grind
  rw [this, Dt.sm_mul]; grind
/-- p times v is a sum of rows of M. -/
def Sol (n K : Nat) (M : Nat → Nat → Int × Int) (v : Nat → Int × Int) (p : Int × Int) (x : Nat → Int × Int) : Prop := p ≠ 0 ∧ ∀ c, c < K → p * v c = Dt.sm n fun i => x i * M i c
/-- What stands below and beside at the end. -/
def yS (n K : Nat) (A : Nat → Nat → Int × Int) (i : Nat) : Int × Int := - Dt.D n A n (K + i)
theorem span_minor {h w r s : Nat} {N X C : Nat → Nat → Int × Int} {p : Int × Int} {f g : Nat → Nat} (hp : p ≠ 0) (hC : ∀ i, i < h → ∀ j, j < w → p * N i j = Dt.sm r fun c => C i c * X c j) (hlt : r < s) (hfg : ∀ i, i < s → f i < h ∧ g i < w) : Dt.det s (fun i j => N (f i) (g j)) = 0 := by
  have e := Dt.det_mul (n := s) (fun c j => if c < r then X c (g j) else 0) (fun i c => if c < r then C (f i) c else 0)
  rw [(Dt.alt_det (R := Int × Int) (n := s)).zero (A := fun c j => if c < r then X c (g j) else 0) (k := r) hlt (fun c _ => if_neg (Nat.lt_irrefl _)),
    Dt.det_congr (A := Dt.mapr s _ _) (B := fun i j => p * N (f i) (g j)) fun i hi j hj => by
      unfold Dt.mapr
      rw [hC _ (hfg i hi).1 _ (hfg j hj).2, Dt.sm_ext (r := r) (by omega) fun c hc _ => by simp only [if_neg (show ¬ c < r by omega)]; grind]
      exact Dt.sm_congr fun c hc => by simp only [if_pos hc],
    Dt.det_scale] at e
  have : Dt.pwr p s * Dt.det s (fun i j => N (f i) (g j)) = 0 := by rw [e]; grind
  exact (noz _ _ this).resolve_left (Dt.pwr_ne noz one_ne hp s)
section
variable {n K : Nat} {M A : Nat → Nat → Int × Int} {v : Nat → Int × Int} {p : Int × Int} {x : Nat → Int × Int}
theorem yS_eq {u : Nat → Nat} {q c : Nat} (hu : ∀ r, r < n → u r < n) (h1 : ∀ r, r < n → A r q = M (u r) c) (h2 : A n q = v c) (h3 : ∀ r, r < n → ∀ i, i < n → A r (K + i) = Dt.one (u r) i) (h4 : ∀ i, i < n → A n (K + i) = 0) :
    Dt.D n A n q = Dt.det n A * v c - Dt.sm n fun i => yS n K A i * M i c := by
  obtain ⟨z, hz⟩ : ∃ z : Nat → Int × Int, z = fun r => Dt.cofc n (fun i j => A j i) r n := ⟨_, rfl⟩
  have key : ∀ q, Dt.D n A n q = (Dt.sm n fun r => A r q * z r) + A n q * Dt.det n A := fun q => by
    rw [← Dt.D_tr, Dt.D_col, Dt.det_tr, hz]
  have ey : ∀ i, i < n → yS n K A i = - Dt.sm n fun r => Dt.one (u r) i * z r := fun i hi => by
    unfold yS
    rw [key, h4 i hi, Dt.sm_congr (g := fun r => Dt.one (u r) i * z r) fun r hr => by rw [h3 r hr i hi]]
    grind
  have es : (Dt.sm n fun i => yS n K A i * M i c) = - Dt.sm n fun r => z r * M (u r) c := by
    have e1 : (Dt.sm n fun i => yS n K A i * M i c) = Dt.sm n fun i => Dt.sm n fun r => (-1 : Int × Int) * (Dt.one (u r) i * (z r * M i c)) := Dt.sm_congr fun i hi => by
      have e2 : (fun r => (-1 : Int × Int) * (Dt.one (u r) i * (z r * M i c))) = fun r => (- M i c) * (Dt.one (u r) i * z r) := by funext r; grind
      rw [ey i hi, e2, Dt.sm_mul]; grind
    rw [e1, sm_comm]
    have e3 : ∀ r, r < n → (Dt.sm n fun i => (-1 : Int × Int) * (Dt.one (u r) i * (z r * M i c))) = (-1) * (z r * M (u r) c) := fun r hr => by
      rw [Dt.sm_one (hu r hr) fun i hi hne => by
        have : Dt.one (R := Int × Int) (u r) i = 0 := by unfold Dt.one; rw [if_neg (Ne.symm hne)]
        rw [this]; grind]
      have : Dt.one (R := Int × Int) (u r) (u r) = 1 := by unfold Dt.one; rw [if_pos rfl]
      rw [this]; grind
    rw [Dt.sm_congr e3, Dt.sm_mul]; grind
  rw [key, h2, es, Dt.sm_congr (g := fun r => z r * M (u r) c) fun r hr => by rw [h1 r hr]; grind]
  grind
/-- The table at the end, row and column by row and column. -/
theorem Pmd.ends (hp : Pmd n K (brdG n K M fun _ => v) A) : ∃ u w w' : Nat → Nat, (∀ r, r < n → u r < n) ∧ (∀ c, c < K → w c < K ∧ w' c < K ∧ w (w' c) = c) ∧ (∀ r, r < n → ∀ q, q < K → A r q = M (u r) (w q)) ∧ (∀ q, q < K → A n q = v (w q)) ∧ (∀ r, r < n → ∀ i, i < n → A r (K + i) = Dt.one (u r) i) ∧ ∀ i, i < n → A n (K + i) = 0 := by
  obtain ⟨u, u', w, w', hA, hu, hw⟩ := hp
  have hun : u n = n := (hu n).2.1 (Nat.le_refl _)
  refine ⟨u, w, w', fun r hr => ((hu r).1 hr).1, fun c hc => ⟨((hw c).1 hc).1, ((hw c).1 hc).2, (hw c).2.2.1⟩, fun r hr q hq => ?_, fun q hq => ?_, fun r hr i hi => ?_, fun i hi => ?_⟩
  · rw [hA]; unfold brdG; rw [if_pos ((hu r).1 hr).1, if_pos ((hw q).1 hq).1]
  · rw [hA, hun]; unfold brdG; rw [if_neg (Nat.lt_irrefl _), if_pos ((hw q).1 hq).1]
  · rw [hA, (hw (K + i)).2.1 (by omega)]; unfold brdG; rw [if_pos ((hu r).1 hr).1, if_neg (by omega), Nat.add_sub_cancel_left]
  · rw [hA, hun, (hw (K + i)).2.1 (by omega)]; unfold brdG; rw [if_neg (Nat.lt_irrefl _), if_neg (by omega)]
/-- Where nothing is left, it is made of the rows. -/
theorem solve_yes (hp : Pmd n K (brdG n K M fun _ => v) A) (h0 : Dt.det n A ≠ 0) (hz : ∀ q, n ≤ q → q < K → Dt.D n A n q = 0) : Sol n K M v (Dt.det n A) (yS n K A) := by
  obtain ⟨u, w, w', h1, h2, h3, h4, h5, h6⟩ := hp.ends
  refine ⟨h0, fun c hc => ?_⟩
  obtain ⟨q1, q2, q3⟩ := h2 c hc
  have hq : w' c < K := q2
  have e := yS_eq (c := c) (q := w' c) h1 (fun r hr => by rw [h3 r hr _ hq, q3]) (by rw [h4 _ hq, q3]) h5 h6
  have e0 : Dt.D n A n (w' c) = 0 := by
    by_cases hn : w' c < n
    · exact Dt.D_col0 hn
    · exact hz _ (by omega) hq
  rw [e0] at e
  grind
/-- Where something is left, it is not. -/
theorem solve_no (hp : Pmd n K (brdG n K M fun _ => v) A) (hs : Sol n K M v p x) {q : Nat} (hn : n ≤ q) (hq : q < K) : Dt.D n A n q = 0 := by
  obtain ⟨u, w, w', h1, h2, h3, h4, h5, h6⟩ := hp.ends
  have hnK : n ≤ K := by omega
  have e : Dt.D n A n q = Dt.det (n + 1) fun i j => (fun i c => if i < n then M i c else v c) (if i < n then u i else n) (w (Dt.bord n q j)) := Dt.det_congr fun i hi j hj => by
    have hb : Dt.bord n q j < K := by unfold Dt.bord; split <;> omega
    by_cases c : i < n
    · have e1 : Dt.bord n n i = i := by unfold Dt.bord; rw [if_pos c]
      simp only [e1, if_pos c, if_pos (h1 i c)]
      exact h3 i c _ hb
    · have e1 : Dt.bord n n i = n := by unfold Dt.bord; rw [if_neg c]
      simp only [e1, if_neg c, if_neg (Nat.lt_irrefl n)]
      exact h4 _ hb
  rw [e]
  refine span_minor (h := n + 1) (w := K) (r := n) (X := M) (C := fun i c => if i < n then p * Dt.one i c else x c) (f := fun i => if i < n then u i else n) (g := fun j => w (Dt.bord n q j)) (N := fun i c => if i < n then M i c else v c) hs.1 (fun i hi j hj => ?_) (Nat.lt_succ_self n) fun i hi => ⟨?_, ?_⟩
  · by_cases c : i < n
    · simp only [if_pos c]
      rw [Dt.sm_one c fun k hk hne => by
        have : Dt.one (R := Int × Int) i k = 0 := by unfold Dt.one; rw [if_neg (Ne.symm hne)]
        rw [this]; grind]
      have : Dt.one (R := Int × Int) i i = 1 := by unfold Dt.one; rw [if_pos rfl]
      rw [this]; grind
    · simp only [if_neg c]
      exact hs.2 j hj
  · by_cases c : i < n
    · simp only [if_pos c]; have := h1 i c; omega
    · simp only [if_neg c]; omega
  · have hb : Dt.bord n q i < K := by unfold Dt.bord; split <;> omega
    exact (h2 _ hb).1
/-- The reference's numbers: v times the rows' conjugates, times the adjugate. -/
def rS (K : Nat) (M : Nat → Nat → Int × Int) (v : Nat → Int × Int) (j : Nat) : Int × Int := sumP K fun c => mP (v c) (cP (M j c))
def yR (n K : Nat) (M : Nat → Nat → Int × Int) (v : Nat → Int × Int) (k : Nat) : Int × Int := Dt.sm n fun j => rS K M v j * adjE n (gG K M) j k
theorem yR_eq (hs : Sol n K M v p x) {k : Nat} (hk : k < n) : p * yR n K M v k = Dt.det n (gG K M) * x k := by
  have h1 : ∀ j, p * rS K M v j = Dt.sm n fun i => x i * gG K M i j := fun j => by
    unfold rS gG
    rw [sm_sumP, ← Dt.sm_mul]
    have e1 : (Dt.sm K fun c => p * mP (v c) (cP (M j c))) = Dt.sm K fun c => Dt.sm n fun i => x i * (M i c * cP (M j c)) := Dt.sm_congr fun c hc => by
      rw [mP_eq]
      have e2 : (fun i => x i * (M i c * cP (M j c))) = fun i => (x i * M i c) * cP (M j c) := by funext i; grind
      rw [e2, sm_r, ← hs.2 c hc]; grind
    rw [e1, sm_comm]
    refine Dt.sm_congr fun i _ => ?_
    rw [sm_sumP, ← Dt.sm_mul]
    exact Dt.sm_congr fun c _ => by rw [mP_eq]
  unfold yR
  rw [← Dt.sm_mul]
  have e1 : (Dt.sm n fun j => p * (rS K M v j * adjE n (gG K M) j k)) = Dt.sm n fun j => Dt.sm n fun i => x i * (gG K M i j * adjE n (gG K M) j k) := Dt.sm_congr fun j _ => by
    have e2 : p * (rS K M v j * adjE n (gG K M) j k) = (p * rS K M v j) * adjE n (gG K M) j k := by grind
    have e3 : (fun i => x i * (gG K M i j * adjE n (gG K M) j k)) = fun i => (x i * gG K M i j) * adjE n (gG K M) j k := by funext i; grind
    rw [e2, h1, e3, sm_r]
  rw [e1, sm_comm]
  have e2 : ∀ i, i < n → (Dt.sm n fun j => x i * (gG K M i j * adjE n (gG K M) j k)) = x i * (if i = k then Dt.det n (gG K M) else 0) := fun i hi => by
    rw [Dt.sm_mul, adj_mulr hi hk]
  rw [Dt.sm_congr e2, Dt.sm_one hk fun i _ hne => by rw [if_neg hne]; grind, if_pos rfl]
  grind
end
end Go.Proofs.YtcoodkdalblalaaGreatDoor
