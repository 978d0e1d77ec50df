/- gdet: ones beside a matrix, others below it: its minors are short; what Adjugate's pivots keep. -/
import Derived.Test.YtjfjlloibmebeaaGreatScToE17
import Derived.Test.YtjfjlloibmebeaaGreatWkToM1
import Derived.Lib.AppendZerosOnto
import Derived.Deep.Upon
import Derived.Test.YtjfjlloibmebeaaGreatO11ToE5
import Derived.Test.YtjfjlloibmebeaaGreatY8

namespace Go.Proofs.YtjfjlloibmebeaaGreat
open Go Go.RowKit Dig
set_option linter.unusedVariables false
theorem det_nrmK {s : Nat} {M : Nat → Nat → Int × Int} {e : Nat → Nat} (hs : s ≤ 1000) (h : ∀ i, i < s → ∀ j, j < s → 1000 * nrm (M i j) ≤ pw (e i)) : nrm (Dt.det s M) ≤ pw (sN s e) := by
 induction s generalizing M e with
 | zero => show nrm (1, 0) ≤ pw 0; exact Nat.le_refl 1
 | succ s ih =>
   rw [Dt.det]
   have key : ∀ {n : Nat} {f : Nat → Int × Int} {T : Nat}, (∀ i, i < n → 1000 * nrm (f i) ≤ T) → 1000 * nrm (Dt.sm n f) ≤ n * T := by
     intro n f T h
     induction n with
     | zero => show 1000 * nrm (0, 0) ≤ _; simp [nrm]
     | succ n ih =>
       rw [Dt.sm]
       have h1 := ih fun i hi => h i (by omega)
       have h2 := h n (by omega)
       have h3 := nrm_add (Dt.sm n f) (f n)
       rw [Nat.succ_mul n T]; omega
   have h1 := key (n := s + 1) (T := pw (sN (s + 1) e)) (f := fun i => Dt.sg (i + s) * (M i s * Dt.det s fun r => M (Dt.skip i r))) fun i hi => by
     have hd := ih (M := fun r => M (Dt.skip i r)) (e := fun r => e (Dt.skip i r)) (by omega) fun r hr j hj => h _ (by unfold Dt.skip; split <;> omega) j (by omega)
     rw [nrm_sg]
     refine Nat.le_trans (Nat.mul_le_mul_left 1000 (nrm_mul _ _)) ?_
     rw [← sN_skip (Nat.le_of_lt_succ hi) e, Nat.add_comm, pw_add, ← Nat.mul_assoc]
     exact Nat.mul_le_mul (h i hi s (by omega)) hd
   have h2 : (s + 1) * pw (sN (s + 1) e) ≤ 1000 * pw (sN (s + 1) e) := Nat.mul_le_mul_right _ hs
   omega
theorem zl_nrmK {b : Nat} {p : Int × Int} (h : zl b p) : 1000 * nrm p ≤ pw (b + 1) := by
 have h1 := Nat.lt_of_lt_of_le (lt_pw_dig p.1.natAbs) (pw_mono h.1)
 have h2 := Nat.lt_of_lt_of_le (lt_pw_dig p.2.natAbs) (pw_mono h.2)
 rw [pw_add, show pw 1 = 4294967296 from rfl]
 unfold nrm; omega
theorem minB_ofK {n W T : Nat} {A : Nat → Nat → Int × Int} {b : Nat → Nat} (hn : n ≤ 1000) (hT : sN n b ≤ T) (hA : ∀ i, i < n → ∀ q, q < W → zl (b i) (A i q)) : MinB n W (T + 1001) A := by
 intro s f g hfg hi
 have hf : ∀ r, r < s → f r < n := fun r hr => (hfg r hr).1
 have h1 : s ≤ n := by
   have := sN_inj (b := fun _ => 1) hf hi
   rw [sN_one, sN_one] at this; omega
 have h2 := det_nrmK (s := s) (M := fun i j => A (f i) (g j)) (e := fun i => b (f i) + 1) (by omega) fun i hi j hj => zl_nrmK (hA _ (hf i hi) _ (hfg j hj).2)
 rw [sN_add, sN_one] at h2
 have h3 := sN_inj (b := b) hf hi
 refine nrm_zl (Nat.lt_of_le_of_lt (Nat.le_trans h2 (pw_mono (show _ ≤ T + 1000 by omega))) ?_)
 rw [show T + 1001 = T + 1000 + 1 from rfl, pw_add (T + 1000), show pw 1 = 4294967296 from rfl]
 have := pw_pos (T + 1000)
 omega
theorem sN_app {n m : Nat} {f : Nat → Nat} : sN (n + m) f = sN n f + sN m fun i => f (n + i) := by
 induction m with
 | zero => rfl
 | succ m ih => rw [show n + (m + 1) = n + m + 1 from rfl, sN, ih, sN]; omega
def brdG (n K : Nat) (M B : Nat → Nat → Int × Int) (r c : Nat) : Int × Int :=
 if r < n then (if c < K then M r c else Dt.one r (c - K)) else if c < K then B (r - n) c else 0
theorem zl_one (r c : Nat) : zl 1 (Dt.one (R := Int × Int) r c) := by
 unfold Dt.one
 split
 · exact ⟨zlen_small8 (z := 1) (by decide), zlen_small8 (z := 0) (by decide)⟩
 · exact zl_0 1
section
variable {n K nb T D : Nat} {M B : Nat → Nat → Int × Int} {b d : Nat → Nat}
theorem minB_brd (hn : n + nb ≤ 1000) (hT : sN n b ≤ T) (hD : sN nb d ≤ D) (hM : ∀ i, i < n → ∀ q, q < K → zl (b i) (M i q)) (hB : ∀ i, i < nb → ∀ q, q < K → zl (d i) (B i q)) : MinB (n + nb) (K + n) (T + D + 2001) (brdG n K M B) := by
 have h := minB_ofK (n := n + nb) (W := K + n) (T := T + D + 1000) (A := brdG n K M B) (b := fun i => if i < n then b i + 1 else d (i - n) + 1) hn (by
   rw [sN_app, sN_congr (g := fun i => b i + 1) fun i hi => if_pos hi, sN_congr (n := nb) (g := fun i => d i + 1) fun i hi => by rw [if_neg (by omega), Nat.add_sub_cancel_left], sN_add, sN_add, sN_one, sN_one]
   omega) fun i hi q hq => by
     unfold brdG
     by_cases c : i < n
     · simp only [if_pos c]
       by_cases e : q < K
       · rw [if_pos e]; exact zl_up (hM i c q e) (by omega)
       · rw [if_neg e]; exact zl_up (zl_one _ _) (by omega)
     · simp only [if_neg c]
       by_cases e : q < K
       · rw [if_pos e]; exact zl_up (hB _ (by omega) q e) (by omega)
       · rw [if_neg e]; exact zl_0 _
 exact h
end
theorem brd_G {n : Nat} {M : Nat → Nat → Int × Int} : brd n M = brdG n n M Dt.one := rfl
def QA (n : Nat) (M : Nat → Nat → Int × Int) (k : Nat) (A : Nat → Nat → Int × Int) (odd : Bool) : Prop :=
 k ≤ n ∧ Pmd n n (brd n M) A ∧ (∀ p q, n ≤ p → n ≤ q → Dt.D n A p q = sgb odd (Dt.D n (brd n M) p q)) ∧ (k < n → QP n n (brd n M) k A odd)
def FinA (n : Nat) (M : Nat → Nat → Int × Int) (k : Nat) (A : Nat → Nat → Int × Int) (odd : Bool) : Prop :=
 k = n ∨ k + 1 < n ∧ FinP n n (brd n M) k A odd
section
variable {n k i j : Nat} {M A : Nat → Nat → Int × Int} {odd : Bool}
theorem QA.zero : QA n M 0 (brd n M) false := ⟨Nat.zero_le _, QP.zero.2.2.2.1, fun _ _ _ _ => rfl, fun _ => QP.zero⟩
theorem QA.next (hq : QA n M k A odd) (hi : k ≤ i) (hi2 : i < n) (hj : k ≤ j) (hj2 : j < n) (h0 : Dt.D k A i j ≠ 0) : QA n M (k + 1) (fun r c => A (swr i k r) (swr j k c)) (xo odd i j k) :=
 ⟨by omega, hq.2.1.swr hi2 (by omega) hj2 (by omega), fun p q hp hq' => D_swr2 hi2 hj2 (by omega) hp hq' (hq.2.2.1 p q hp hq'), fun _ => (hq.2.2.2 (by omega)).next hi hi2 hj hj2 h0⟩
theorem FinA.adj (hf : FinA n M k A odd) (hq : QA n M k A odd) (hi : i < n) (hj : j < n) : (k = n → adjE n M i j = sgb odd (-(Dt.D n A (n + i) (n + j)))) ∧ (k ≠ n → adjE n M i j = 0) := by
 refine ⟨fun e => ?_, fun e => ?_⟩
 · rw [hq.2.2.1 _ _ (by omega) (by omega), brd_D hi hj]
   cases odd
   · show _ = - - _; grind
   · show _ = sgb true (-(sgb true (- _)))
     rw [sgb_eq, sgb_eq]; simp only [if_true]; grind
 · rcases hf with hf | ⟨h1, h2⟩
   · exact absurd hf e
   · have hr := h2.rk
     have hr2 : Dt.Rk n n M k := hr.perm (u := id) (u' := id) (v := id) (v' := id) (fun i hi j hj => by unfold brd; rw [if_pos hi, if_pos hj]; rfl) (fun i hi => ⟨hi, hi, rfl⟩) (fun i hi => ⟨hi, hi, rfl⟩)
     exact adjE_0 hr2 h1 hi hj
end
end Go.Proofs.YtjfjlloibmebeaaGreat

/- append of many: a list of the call's own behind another; zeros (append of make). -/
namespace Go.Proofs.YtjfjlloibmebeaaGreat
open Go Go.RowKit Dig
set_option linter.unusedVariables false
section
variable {P : Program} {o : Oper} {a : Act} {w w0 : World} {B : Exit → Act → World → Prop} {E : World → Prop} {G : Act → World → Prop} {bs : List En}
theorem AllE.at_ : ∀ {bs : List En} {i : Nat} {en : En}, AllE bs w → bs[i]? = some en → Ok en w := by
 intro bs
 induction bs with
 | nil => intro i en _ hi; simp at hi
 | cons b t ih =>
   intro i en hA hi
   cases i with
   | zero => obtain rfl : b = en := by simpa using hi
             exact hA.1
   | succ i => exact ih hA.2 (by simpa using hi)
theorem St.grew {v v' : Value} {n k sz i : Nat} {xs ys : List Value} {e : TypeId} {w' : World} (hs : St w0 bs w) (hi : bs[i]? = some (ls w0.heap.size e sz v n xs)) (h2 : Lst w' w0.heap.size e sz v' k ys) (h3 : w.grownBy w' v.ownBlock) (h4 : v'.ownBlock = v.ownBlock ∨ v'.ownBlock = some w.heap.size) (hu : (e == 99) = false) :
   St w0 (bs.set i (ls w0.heap.size e sz v' k ys)) w' ∧ Kp w w' ∧ Below w0.heap.size w w' := by
 have hL : Lst w w0.heap.size e sz v n xs := (AllE.at_ hs.1 hi).1
 refine ⟨?_, kp_grown h3 (hL.nod hu), ⟨h3.os, h3.tape, h3.output, h3.size, fun k hk => h3.block k (Nat.lt_of_lt_of_le hk hs.k) fun hc => Nat.lt_irrefl _ (Nat.lt_of_lt_of_le hk (hL.1.lt k hc.symm).1)⟩⟩
 refine hs.st i hi (fun k hk hne => h3.block k hk hne) h3.size (.ls h2) (fun k hk => ?_) ?_
 · rcases h4 with h5 | h5
   · exact .inl (h5.symm.trans hk)
   · right
     have h6 : some w.heap.size = some k := h5.symm.trans hk
     injection h6 with h6
     omega
 · refine ⟨h3.os.trans hs.b.os, h3.tape.trans hs.b.tape, h3.output.trans hs.b.output, Nat.le_trans hs.k h3.size, fun k hk => ?_⟩
   rw [h3.block k (Nat.lt_of_lt_of_le hk hs.k) fun hc => ?_]
   · exact hs.b.block k hk
   · have := (hL.1.lt k hc.symm).1
     omega
theorem grownBy_refl (w : World) (r : Option Nat) : w.grownBy w r := ⟨rfl, rfl, rfl, Nat.le_refl _, fun _ _ _ => rfl⟩
theorem Stp.aps {v v2 z : Value} {n m sz : Nat} {xs ys : List Value} {e t : TypeId} {inf : TypeInfo} {sv xv : Operand} {a' : Value → Act} (i j : Nat) (hs : St w0 bs w) (h1 : ∀ u ∈ ys, u.oneCell' = true)
   (h : ∀ o' c' w', St w0 (bs.set i (ls w0.heap.size e sz (.slice o' (n + m) c') (n + m) (xs ++ ys))) w' → Kp w w' → Below w0.heap.size w w' → G (a' (.slice o' (n + m) c')) w')
   (hi : bs[i]? = some (ls w0.heap.size e sz v n xs) := by rfl) (hj : bs[j]? = some (ls w0.heap.size e sz v2 m ys) := by rfl) (hn : n + m ≤ 100000000000 := by omega)
   (ho : o.op = .call { callee := .builtin .append, args := #[sv, xv], argTypes := #[t, t] } := by rfl) (hsv : a.eval sv = v := by rfl) (hxv : a.eval xv = v2 := by rfl)
   (ht : P.underlying t = some (.slice e) := by rfl) (hinf : P.info? e = some inf := by rfl) (hz : inf.zero = some z := by rfl)
   (hsz : inf.size = sz := by rfl) (hzs : z.cells.size = sz := by rfl) (h0 : 0 < sz := by decide) (hzn : z.cells.toList.all nd = true := by rfl) (hby : inf.bytes ≤ 1000 := by decide)
   (hu : (e == 99) = false := by rfl)
   (hp : ∀ v', a.put o.dst v' = a' v' := by intro v'; unfold Act.put; simp only [List.setIfInBounds_toArray, List.set_cons_succ, List.set_cons_zero]; rfl)
   (eE : ∀ o' c' w', St w0 (bs.set i (ls w0.heap.size e sz (.slice o' (n + m) c') (n + m) (xs ++ ys))) w' → E w' := by exact fun _ _ _ _ => trivial) (hd : ∀ v', (a' v').defers = a.defers := by exact fun _ => rfl) : Stp P o a w B E G := fun K hK => by
 have hL : Lst w w0.heap.size e sz v n xs := (AllE.at_ hs.1 hi).1
 have hL2 : Lst w w0.heap.size e sz v2 m ys := (AllE.at_ hs.1 hj).1
 have key : ∃ v' w', (Builtin.append_ #[t, t] o.type #[v, v2]).run P w = .ok v' w' ∧ Lst w' w0.heap.size e sz v' (n + m) (xs ++ ys) ∧ w.grownBy w' v.ownBlock ∧ (v'.ownBlock = v.ownBlock ∨ v'.ownBlock = some w.heap.size) := by
   rcases Nat.eq_zero_or_pos m with hm | hm
   · subst hm
     have e0 : ys = [] := List.eq_nil_of_length_eq_zero (by rw [hL2.1.1, Nat.zero_mul])
     subst e0
     refine ⟨v, w, ?_, by simpa using hL, grownBy_refl _ _, .inl rfl⟩
     have hsrc : Src P inf.size t v2 0 [] w := by
       rcases hL2.1.2 with ⟨rfl, _⟩ | ⟨g, cap, cur, rfl, _⟩
       · exact Src.ofNil w ht _
       · exact Src.ofSlice w ht _ _ _ [] (by simp) (fun j u hj => by simp at hj) (fun u hu => by cases hu)
     rcases hL.1.2 with ⟨rfl, rfl⟩ | ⟨g, cap, cur, rfl, _, _, hnc, _⟩
     · exact run_append_nothing w t t o.type e inf ht hinf none 0 0 (Nat.le_refl _) v2 hsrc
     · exact run_append_nothing w t t o.type e inf ht hinf _ n cap hnc v2 hsrc
   · rcases hL2.1.2 with ⟨_, h9⟩ | ⟨g, cap, cur, rfl, hbg, hg, hnc, hcm, hcs, htake⟩
     · omega
     · have hnn : ys.all nd = true := by
         rw [← htake]
         have := hL2.2 g cur rfl hg
         rw [List.all_eq_true] at this ⊢
         exact fun x hx => this x (List.mem_of_mem_take hx)
       exact Lst.append (P := P) w0.heap.size t o.type e inf z sz inf.bytes ht hinf hz hsz rfl hzs h0 hzn v n xs hL ⟨g, 0, none⟩ m cap ys hm hL2.1.1 (hL2.1.cells (g := g) rfl) h1 hnn (by unfold maxLen; omega) (Nat.le_trans (Nat.mul_le_mul_left _ hby) (by omega)) hs.k
 obtain ⟨v', w', hr, h2, h3, h4⟩ := key
 obtain ⟨o', c', rfl⟩ := h2.shape
 obtain ⟨g1, g2, g3⟩ := St.grew hs hi h2 h3 h4 hu
 unfold Oper.wp execOp
 simp only [ho, resolve, invoke, builtin, Sem.run_bind, Sem.run_pure, Result.andThen_ok, List.map_toArray, List.map_cons, List.map_nil, hsv, hxv, hr]
 have h7 := hK (a' (.slice o' (n + m) c')) w' (hd _) (eE _ _ _ g1) (h _ _ _ g1 g2 g3)
 rw [← hp] at h7
 exact h7
end
end Go.Proofs.YtjfjlloibmebeaaGreat

/- gdet: blank; ones beside a matrix and others below it, as lists of rows. -/
namespace Go.Proofs.YtjfjlloibmebeaaGreat
open Go Go.RowKit Dig
set_option linter.unusedVariables false
theorem gd_made (w : World) : ∀ k, GD w (madeCells #[.bool false, .slice none 0 0, .bool false, .slice none 0 0] (k * 4)).toList (List.replicate k (0, 0)) := by
 have key : ∀ n, (madeCells #[.bool false, .slice none 0 0, .bool false, .slice none 0 0] n).toList = (List.range n).map fun j => if j % 2 = 0 then Value.bool false else .slice none 0 0 := fun n => by
   unfold madeCells
   rw [Array.toList_map, Array.toList_range]
   refine List.map_congr_left fun j _ => ?_
   show (#[Value.bool false, .slice none 0 0, .bool false, .slice none 0 0] : Array Value)[j % 4]! = _
   have h : j % 4 = 0 ∨ j % 4 = 1 ∨ j % 4 = 2 ∨ j % 4 = 3 := by omega
   rcases h with h | h | h | h <;> rw [h]
   · rw [if_pos (by omega)]; rfl
   · rw [if_neg (by omega)]; rfl
   · rw [if_pos (by omega)]; rfl
   · rw [if_neg (by omega)]; rfl
 intro k
 induction k with
 | zero => rw [key]; trivial
 | succ k ih =>
   rw [key] at ih ⊢
   rw [List.replicate_succ, show (k + 1) * 4 = k * 4 + 1 + 1 + 1 + 1 by omega, List.range_succ_eq_map, List.range_succ_eq_map, List.range_succ_eq_map, List.range_succ_eq_map]
   simp only [List.map_cons, List.map_map]
   refine ⟨.mk' (zc_zero w) (zc_zero w), ?_⟩
   have e : (fun j => if j % 2 = 0 then Value.bool false else .slice none 0 0) ∘ Nat.succ ∘ Nat.succ ∘ Nat.succ ∘ Nat.succ = fun j => if j % 2 = 0 then Value.bool false else .slice none 0 0 := by
     funext j
     simp only [Function.comp, Nat.succ_eq_add_one]
     by_cases h : j % 2 = 0
     · rw [if_pos h, if_pos (by omega)]
     · rw [if_neg h, if_neg (by omega)]
   rw [e]; exact ih
theorem rows_one {w0 w : World} {es : List En} {rs : List Rw} (hs : St w0 es w) (hr : ∀ r ∈ rs, r.e w0.heap.size ∈ es) : ∀ u ∈ rs.map (·.v), u.oneCell' = true := by
 have key : ∀ {l : List En}, AllE l w → ∀ e ∈ l, Ok e w := by
   intro l
   induction l with
   | nil => intro _ e he; cases he
   | cons a t ih => intro h e he; rcases List.mem_cons.1 he with rfl | he; exact h.1; exact ih h.2 e he
 intro u hu
 obtain ⟨r, h1, rfl⟩ := List.mem_map.1 hu
 have L : Lst w w0.heap.size 38 4 r.v r.n r.xs := (key hs.1 _ (hr r h1)).1
 obtain ⟨o, c, e⟩ := L.shape
 rw [e]; rfl
def bk (r k i : Nat) : List (List (Int × Int)) := (List.range r).map fun p => if p < i then List.replicate k (0, 0) else []
section
variable {r k i : Nat}
theorem bk_0 : bk r k 0 = List.replicate r [] := by
 refine List.eq_replicate_iff.2 ⟨by simp [bk], fun x hx => ?_⟩
 obtain ⟨p, _, rfl⟩ := List.mem_map.1 hx
 rw [if_neg (Nat.not_lt_zero _)]
theorem bk_get (hi : i < r) : (bk r k i)[i]'(by simp [bk, hi]) = [] := by simp [bk]
theorem bk_set (hi : i < r) : (bk r k i).set i (List.replicate k (0, 0)) = bk r k (i + 1) := by
 refine List.ext_getElem (by simp [bk]) fun p h1 h2 => ?_
 simp only [bk, List.getElem_set, List.getElem_map, List.getElem_range]
 by_cases e : i = p
 · rw [if_pos e, if_pos (by omega)]
 · rw [if_neg e]
   by_cases e2 : p < i
   · rw [if_pos e2, if_pos (by omega)]
   · rw [if_neg e2, if_neg (by omega)]
theorem bk_end : bk r k r = mkM r k fun _ _ => (0, 0) := List.map_congr_left fun p hp => by
 rw [if_pos (List.mem_range.1 hp)]
 exact (List.eq_replicate_iff.2 ⟨by simp, fun x hx => by obtain ⟨_, _, rfl⟩ := List.mem_map.1 hx; rfl⟩).symm
end
section
variable {w : World} {r k : Nat}
set_option maxHeartbeats 4000000 in
set_option maxRecDepth 20000 in
theorem blank_any (hr : r ≤ 1000) (hk : k ≤ 1000) :
   Calls Tryz.prog 81 #[.int .i64 (r : Int), .int .i64 (k : Int)] w fun e w' => ∃ o c rs, e = .returned (.slice o r c) ∧ rs.length = r ∧ St w (Mx w.heap.size (.slice o r c) rs) w' ∧ RD w' rs (mkM r k fun _ _ => (0, 0)) ∧ Below w.heap.size w w' := by
 go_enter Tryz.func81, Tryz.ntmps81
 have hs := St.nil w
 refine wp_seq_k fun K1 hK1 => rg [0] ?_
 refine sm ?_
 apply wpSq_end
 refine hK1 _ _ ?_
 refine wp_seq_k fun K2 hK2 => rg [0, 1, 2] ?_
 refine sm ?_
 refine sq ?_
 refine .mk (n := r) hs ?_ (by first | rfl | omega) (by omega); clear hs; intro g_l xs_l w_1 hs e_l n1 kb_l
 refine sm ?_
 apply wpSq_end
 refine hK2 _ _ ?_
 refine wp_seq_k ?_
 intro K3 hK3
 refine wp_seq_k fun K4 hK4 => rg [0, 1, 2] ?_
 refine sm ?_
 refine sr ?_
 refine sm ?_
 apply wpSq_end
 refine hK4 _ _ ?_
 refine wp_block ?_
 replace e_l : xs_l = List.replicate r (Value.slice none 0 0) := e_l.trans (made_one (.slice none 0 0) r)
 have hs := hs.nils r
 rw [e_l, show List.replicate r (Value.slice none 0 0) = (List.replicate r (⟨.slice none 0 0, 0, []⟩ : Rw)).map (·.v) by simp] at hs
 clear e_l
 have hd2 := hs.2.1
 go_loopg [11] r (fun kz s11 wr => ∃ (i : Nat) (rs : List Rw), s11 = .int .i64 (i : Int) ∧ i + kz = r ∧ rs.length = r ∧ RD wr rs (bk r k i) ∧ St w (ls w.heap.size 51 1 (.slice (some ⟨g_l, 0, none⟩) r r) r (rs.map (·.v)) :: ([] ++ rs.map (Rw.e w.heap.size))) wr)
 case atStart => exact ⟨0, _, rfl, by omega, by simp, by rw [bk_0]; exact RD.nils r, hs⟩
 case round =>
 clear hs
 obtain ⟨i, rs, rfl, hir, hrl, hd, hs⟩ := hrel
 by_cases hi : i < r
 · have HI := hide hi
   obtain ⟨r1, oR, cR, xs, r2, rfl, hr1, hrv, hx, hs⟩ := hs.row0 (bs := []) hd (p := i) (by simp [bk]; exact HI.out)
   replace hs := hs.sub (.cons _ (List.Sublist.refl _))
   simp only [bk_get HI.out, List.length_nil] at hs
   refine wp_seq_k fun K5 hK5 => rg [0] ?_
   refine sr ?_
   apply wpSq_end
   refine hK5 _ _ ?_
   refine wp_seq_k ?_
   intro K6 hK6
   refine ct ?_
   refine wp_skip ?_
   refine hK6 _ _ ?_
   refine wp_seq_k ?_
   intro K7 hK7
   refine wp_block ?_
   refine wp_seq_k fun K8 hK8 => rg [0, 1] ?_
   refine sm ?_
   refine sm ?_
   apply wpSq_end
   refine hK8 _ _ ?_
   refine rg [0, 1, 2, 3, 4, 5] ?_
   refine sm ?_
   refine sm ?_
   refine sm ?_
   refine sq ?_
   refine .mk (n := k) hs ?_ (by first | rfl | omega) (by omega); clear hs; intro g_z xs_z w_3 hs e_z n3 kb_z
   refine sr ?_
   refine sq ?_
   refine .i1 1 hs (j := i) (by exact HI.out) ?_; clear hs; intro w_4 hs kp4 hd4 ho4 hw4; simp only [List.set_cons_succ, List.set_cons_zero] at hs
   apply wpSq_end
   refine hK7 _ _ ?_
   refine rg [0, 1] ?_
   refine sr ?_
   refine sm ?_
   apply wpSq_end
   have k0_2 := (kb n3).t kp4
   replace hd := hd.k k0_2
   refine ‹∀ (a' : Act) (w' : World), Handed _ _ a' w' → _› _ _ ?_
   have hz : GD w_4 xs_z (List.replicate k (0, 0)) := by rw [show xs_z = _ from e_z]; exact gd_made _ k
   have hs := St.unrow0 (bs := []) hs hr1
   have hd := RD.set' (n := k) (m := List.replicate k (0, 0)) (v := .slice (some ⟨g_z, 0, none⟩) k k) (by simp) hz hd hr1
   rw [bk_set HI.out] at hd
   go_roundg (gk - 1)
   case rel => exact ⟨i + 1, _, by rfl, by omega, by simpa using hrl, hd, hs⟩
   case measure => omega
 · obtain rfl : r = i := by omega
   have HX := hide hi
   refine wp_seq_k fun K5 hK5 => rg [0] ?_
   refine sr ?_
   apply wpSq_end
   refine hK5 _ _ ?_
   refine wp_seq_k ?_
   intro K6 hK6
   refine cf ?_
   refine wp_exit ?_
   refine hK3 _ _ ?_
   refine wp_seq_k fun K7 hK7 => rg [0, 1] ?_
   refine sm ?_
   refine sm ?_
   apply wpSq_end
   refine hK7 _ _ ?_
   refine wp_ret ?_
   try dsimp only [Exit.then, Exit.inBlock]
   refine bodyPost_ret (v := (.slice (some ⟨g_l, 0, none⟩) r r)) (by simp [results, Tryz.results81, go_sem]) rfl ?_
   exact ⟨_, _, rs, rfl, hrl, (by unfold Mx; rw [hrl]; exact hs), by rw [← bk_end]; exact hd, hs.b⟩
end
end Go.Proofs.YtjfjlloibmebeaaGreat

/- gdet: bordered. -/
namespace Go.Proofs.YtjfjlloibmebeaaGreat
open Go Go.RowKit Dig
set_option linter.unusedVariables false
theorem MCof {w0 w : World} {es : List En} {n c : Nat} {o : Option Addr} {rs : List Rw} {vs : List Value} {Ms : List (List (Int × Int))} (hs : St w0 es w) (hm : ls w0.heap.size 51 1 (.slice o n c) n vs ∈ es) (hv : rs.map (·.v) = vs) (hr : ∀ r ∈ rs, r.e w0.heap.size ∈ es) (hn : rs.length = n) (hd : RD w rs Ms) : MC w o Ms := by
 have key : ∀ {l : List En}, AllE l w → ∀ e ∈ l, Ok e w := by
   intro l
   induction l with
   | nil => intro _ e he; cases he
   | cons a t ih => intro h e he; rcases List.mem_cons.1 he with rfl | he; exact h.1; exact ih h.2 e he
 have hM : AllE (rs.map (Rw.e w0.heap.size)) w := by
   have : ∀ {rs : List Rw}, (∀ r ∈ rs, Ok (r.e w0.heap.size) w) → AllE (rs.map (Rw.e w0.heap.size)) w := by
     intro rs
     induction rs with
     | nil => intro _; trivial
     | cons a t ih => intro h; exact ⟨h a (List.mem_cons_self ..), ih fun r hr => h r (List.mem_cons_of_mem _ hr)⟩
   exact this fun r h => key hs.1 _ (hr r h)
 subst hv hn
 have L : Lst w w0.heap.size 51 1 (.slice o rs.length c) rs.length (rs.map (·.v)) := (key hs.1 _ hm).1
 have hn := hd.len
 rcases Nat.eq_zero_or_pos rs.length with h0 | h0
 · exact .inl (List.eq_nil_of_length_eq_zero (by omega))
 · obtain ⟨g, cur, rfl, x, hc⟩ := L.box h0
   refine .inr ⟨g, 0, cur, _, _, rfl, x, fun i hi => ?_⟩
   obtain ⟨r, h1, h2, h3⟩ := hd.get i hi
   have h4 : (rs.map (Rw.e w0.heap.size))[i]? = some (r.e w0.heap.size) := by rw [List.getElem?_map, h1]; rfl
   have L2 : Lst w w0.heap.size 38 4 r.v r.n r.xs := (hM.at h4).1
   obtain ⟨o2, c2, e⟩ := L2.shape
   have h5 : (rs.map (·.v))[i]? = some r.v := by rw [List.getElem?_map, h1]; rfl
   have := hc _ _ h5
   rw [e] at L2
   exact ⟨o2, c2, by rw [Nat.zero_add, this, e, h2], (L2.sc h3).2⟩
theorem RD.app {w : World} {ts : List Rw} {Ns : List (List (Int × Int))} (h2 : RD w ts Ns) : ∀ {rs : List Rw} {Ms : List (List (Int × Int))}, RD w rs Ms → RD w (rs ++ ts) (Ms ++ Ns)
 | [], [], _ => h2
 | _ :: _, _ :: _, h => ⟨h.1, RD.app h2 h.2⟩
section
variable {n k K nb : Nat} {F : Nat → Nat → Int × Int} {B : List (List (Int × Int))}
theorem brd_top (hK : 0 < n → K = k) : ((List.range n).map fun r => [mkM n k F, mkM n n one2].flatMap (rw_ · r)) = mkM n (K + n) (brdG n K F (at2 B)) := by
 refine List.map_congr_left fun r hr => ?_
 have hr : r < n := List.mem_range.1 hr
 obtain rfl := hK (by omega)
 have e : ∀ {W : Nat} {G : Nat → Nat → Int × Int}, rw_ (mkM n W G) r = (List.range W).map (G r) := by
   intro W G; simp [rw_, mkM, List.getD, hr]
 simp only [List.flatMap_cons, List.flatMap_nil, List.append_nil, e]
 refine List.ext_getElem (by simp) fun j h1 h2 => ?_
 have hj : j < K + n := by simpa using h2
 simp only [List.getElem_map, List.getElem_range]
 unfold brdG
 rw [if_pos hr]
 by_cases c : j < K
 · rw [List.getElem_append_left (by simp [c]), if_pos c]; simp
 · rw [List.getElem_append_right (by simp; omega), if_neg c]
   simp only [List.length_map, List.length_range, List.getElem_map, List.getElem_range]
   rfl
theorem brd_low (hB : B.length = nb) (hK : ∀ i, i < nb → (rw_ B i).length = K) : ((List.range nb).map fun r => [B, mkM nb n fun _ _ => (0, 0)].flatMap (rw_ · r)) = (List.range nb).map fun r => (List.range (K + n)).map (brdG n K F (at2 B) (n + r)) := by
 refine List.map_congr_left fun r hr => ?_
 have hr : r < nb := List.mem_range.1 hr
 have e : rw_ (mkM nb n fun _ _ => ((0 : Int), (0 : Int))) r = (List.range n).map fun _ => (0, 0) := by simp [rw_, mkM, List.getD, hr]
 have hl := hK r hr
 simp only [List.flatMap_cons, List.flatMap_nil, List.append_nil, e]
 refine List.ext_getElem (by simp [hl]) fun j h1 h2 => ?_
 have hj : j < K + n := by simpa using h2
 simp only [List.getElem_map, List.getElem_range]
 unfold brdG
 rw [if_neg (by omega), Nat.add_sub_cancel_left]
 by_cases c : j < K
 · rw [List.getElem_append_left (by omega), if_pos c]
   simp [at2, at1, List.getD, hl, c]
 · rw [List.getElem_append_right (by omega), if_neg c]
   simp only [List.getElem_map]
   rfl
theorem mkM_app {W : Nat} {G : Nat → Nat → Int × Int} : mkM n W G ++ ((List.range nb).map fun r => (List.range W).map (G (n + r))) = mkM (n + nb) W G := by
 unfold mkM
 rw [List.range_add, List.map_append, List.map_map]
 rfl
end
theorem smTwo {l n p c1 c2 : Nat} {w : World} {ty : TypeId} {fz : Nat × Nat} {o1 o2 : Option Addr} {A B : List (List (Int × Int))} (x : Bs w p #[.slice o1 n c1, .slice o2 n c2] ty fz) (h1 : MN l w o1 A) (h2 : MN l w o2 B) (e1 : A.length = n) (e2 : B.length = n) : SM l n w (some ⟨p, 0, none⟩) [A, B] :=
 ⟨p, _, ty, fz, rfl, x, fun i hi => match i, hi with
   | 0, _ => ⟨e1, o1, c1, rfl, h1⟩
   | 1, _ => ⟨e2, o2, c2, rfl, h2⟩⟩
theorem bdM_mk {l r k : Nat} {F : Nat → Nat → Int × Int} (h : ∀ i, i < r → ∀ j, j < k → zl l (F i j)) : BdM l (mkM r k F) := fun q hq p hp => by
 obtain ⟨i, hi, rfl⟩ := List.mem_map.1 hq
 obtain ⟨j, hj, rfl⟩ := List.mem_map.1 hp
 exact h i (List.mem_range.1 hi) j (List.mem_range.1 hj)
theorem zl_one2 (l i j : Nat) : zl (l + 1) (one2 i j) := zl_up (zl_one i j) (by omega)
theorem mkM_wid {r k i : Nat} {F : Nat → Nat → Int × Int} : (rw_ (mkM r k F) i).length ≤ k := by
 rcases Nat.lt_or_ge i r with h | h
 · simp [rw_, mkM, List.getD, h]
 · simp [rw_, mkM, List.getD, h]
section
variable {w w0 : World} {la lb n k K nb ca cb : Nat} {oa ob : Option Addr} {bs : List En} {A B : List (List (Int × Int))}
set_option maxHeartbeats 4000000 in
set_option maxRecDepth 20000 in
theorem bordered_any (hst : St w0 bs w) (ha : MN la w0 oa A) (hna : A.length = n) (h : gd A) (hk : wd A = k) (hb' : ∀ w', St w0 bs w' → Kp w w' → MN lb w' ob B) (hnb : B.length = nb) (hK : ∀ i, i < nb → (rw_ B i).length = K) (hKk : 0 < n → K = k) (hKl : K ≤ 1000) (hnb2 : nb ≤ 100) (hla : la ≤ 10000000) (hlb : lb ≤ 10000000) :
   Calls Tryz.prog 80 #[.slice oa n ca, .slice ob nb cb] w fun e w' => ∃ p o c rs, e = .returned (.pointer (some ⟨p, 0, none⟩)) ∧ Hid (w0.heap.size ≤ p) ∧ rs.length = n + nb ∧ RD w' rs (mkM (n + nb) (K + n) (brdG n K (at2 A) (at2 B))) ∧
     St w0 (ls w0.heap.size 51 1 (.slice o (n + nb) c) (n + nb) (rs.map (·.v)) :: bx p #[.slice o (n + nb) c, .int .i64 (n : Int), .int .i64 (k : Int), .bool false] 105 :: (bs ++ rs.map (Rw.e w0.heap.size))) w' ∧ Kp w w' := by
 have HA := hide ha
 have H := hide h
 have HK := hide hk
 have HB := hide hb'
 have HKK := hide hKk
 have HKB := hide hK
 have hn64 : n ≤ 64 := by have := h.1; omega
 have hk64 : k ≤ 64 := by have := h.2.1; omega
 have BT := hide (show BdM (la + 1) (mkM n k (at2 A)) from bdM_mk fun i _ j _ => zl_up (at2_bd ha.bd) (by omega))
 have B1 := hide (show BdM (la + 1) (mkM n n one2) from bdM_mk fun i _ j _ => zl_one2 _ _ _)
 have B0 := hide (show BdM lb (mkM nb n fun _ _ => (0, 0)) from bdM_mk fun i _ j _ => zl_0 _)
 have HR1 := hide (show ∀ M ∈ [mkM n k (at2 A), mkM n n one2], ∀ i, (rw_ M i).length ≤ 1000 from fun M hM i => by
   simp only [List.mem_cons, List.not_mem_nil, or_false] at hM
   rcases hM with rfl | rfl <;> exact Nat.le_trans mkM_wid (by omega))
 have HR2 := hide (show ∀ M ∈ [B, mkM nb n fun _ _ => (0, 0)], ∀ i, (rw_ M i).length ≤ 1000 from fun M hM i => by
   simp only [List.mem_cons, List.not_mem_nil, or_false] at hM
   rcases hM with rfl | rfl
   · rcases Nat.lt_or_ge i nb with c | c
     · rw [hK i c]; exact hKl
     · simp [rw_, List.getD, show M.length ≤ i by omega]
   · exact Nat.le_trans mkM_wid (by omega))
 have kk := KpF.r w
 clear ha h hk hb' hKk hK
 go_enter Tryz.func80, Tryz.ntmps80
 have hs := hst
 clear hst
 refine wp_seq_k fun K1 hK1 => rg [0] ?_
 refine sm ?_
 apply wpSq_end
 refine hK1 _ _ ?_
 refine wp_seq_k fun K2 hK2 => rg [0, 1, 2] ?_
 refine sm ?_
 refine sq ?_
 intro K hK
 go_big_op
 go_fit (laid_any hs HA.out hna H.out HK.out (by omega))
 have bb1 := hs.b
 rintro e w_1 ⟨p_t, o_t, c_t, rs_t, rfl, kb_bt, hl_t, hd, hs', kp1⟩
 clear hs; have hs := hs'; clear hs'
 have bc1 := hs.b
 clear bb1 bc1
 refine hK _ _ rfl trivial ?_
 clear hK K
 refine sm ?_
 apply wpSq_end
 refine hK2 _ _ ?_
 refine wp_seq_k fun K3 hK3 => rg [0, 1, 2, 3, 4, 5, 6, 7, 8, 9] ?_
 refine sm ?_
 refine sr ?_
 refine sr ?_
 refine sq ?_
 refine .r4 hs.g1.f4 ?_
 refine sq ?_
 intro K hK
 go_big_op
 go_fit (mIdent_ok hn64)
 rintro e w_2 ⟨o_I, c_I, rs_I, rfl, hl_I, hs_I, d_I, hb_2⟩
 replace hs := hs.mx hl_I hs_I; simp only [List.cons_append] at hs
 refine hK _ _ rfl trivial ?_
 clear hK K
 refine sm ?_
 refine sr ?_
 refine sr ?_
 refine sm ?_
 refine sm ?_
 apply wpSq_end
 refine hK3 _ _ ?_
 refine wp_seq_k ?_
 intro K4 hK4
 refine wp_region_f4 [(0, false), (1, false), (2, false), (3, false), (4, false), (5, false), (8, false), (9, false), (10, false), (11, false), (12, false), (13, false), (14, false), (6, true), (7, true), (15, true), (16, true), (17, true)] [18, 19, 20, 21] [] (fun _ => default) [99, 99, 99, 99, 0, 99, 99, 99, 99, 99, 99, 99, 99, 99, 0, 99, 99, 99, 99, 99, 99, 99] [(21, 0)] (.c hs.g2 .n) fn fun w_3 n3 => ?_
 replace hs := hs.bl n3
 refine fmv ?_
 refine fmv ?_
 refine f0 ?_
 refine f0 ?_
 refine f4 ?_
 refine fmv ?_
 refine fmv ?_
 refine fmv ?_
 refine fb ?_
 refine fmv ?_
 refine f0 ?_
 refine f0 ?_
 refine f4 ?_
 refine fl fun w_4 n4 => ?_
 replace hs := hs.bl n4
 refine .al hs ?_ (e := fun _ _ hs n => ⟨n, (And.intro hs.g3 trivial)⟩); clear hs; intro p_b1 w_5 hs n5 kb_b1
 refine fl fun w_6 n6 => ?_
 replace hs := hs.bl n6
 intro K hK
 have k1_6 := ((((kb hb_2).b n3).b n4).b n5).b n6
 replace hd := hd.k k1_6
 have k2_6 := (((kb n3).b n4).b n5).b n6
 replace d_I := d_I.k k2_6
 go_big_op
 go_fit (dbeside_any (l := la + 1) (Mss := [mkM n k (at2 A), mkM n n one2]) (smTwo hs.g0 ((MCof (c := c_t) hs (by simp) rfl (fun r hr ↦ by simp [List.mem_map_of_mem hr]) hl_t hd).mn BT.out) ((MCof (c := c_I) hs (by simp) rfl (fun r hr ↦ by simp [List.mem_map_of_mem hr]) hl_I d_I).mn B1.out) len_mkM len_mkM) rfl (by decide) (by omega) HR1.out (by decide) (by omega))
 rintro e w_7 ⟨o_X, c_X, rs_X, rfl, hl_X, hs_X, d_X, hb_7⟩
 replace hs := hs.mx hl_X hs_X; simp only [List.cons_append] at hs
 rw [brd_top (B := B) HKK.out] at d_X
 refine hK _ _ rfl ⟨hb_7, (And.intro hs.g4 trivial)⟩ ?_
 clear hK K
 refine fl fun w_8 n8 => ?_
 replace hs := hs.bl n8
 intro K hK
 go_big_op
 go_fit (blank_any (r := nb) (k := n) (by omega) (by omega))
 rintro e w_9 ⟨o_Z, c_Z, rs_Z, rfl, hl_Z, hs_Z, d_Z, hb_9⟩
 replace hs := hs.mx hl_Z hs_Z; simp only [List.cons_append] at hs
 refine hK _ _ rfl ⟨hb_9, (And.intro hs.g5 trivial)⟩ ?_
 clear hK K
 refine fl fun w_10 n10 => ?_
 replace hs := hs.bl n10
 refine .al hs ?_ (e := fun _ _ hs n => ⟨n, (And.intro hs.g6 trivial)⟩); clear hs; intro p_b2 w_11 hs n11 kb_b2
 refine fl fun w_12 n12 => ?_
 replace hs := hs.bl n12
 intro K hK
 have k0_12 := ((((((((((kp1.b hb_2).b n3).b n4).b n5).b n6).b hb_7).b n8).b hb_9).b n10).b n11).b n12
 replace kk := kk.k k0_12
 have k9_12 := ((kb n10).b n11).b n12
 replace d_Z := d_Z.k k9_12
 go_big_op
 go_fit (dbeside_any (l := lb) (Mss := [B, mkM nb n fun _ _ ↦ (0, 0)]) (smTwo hs.g0 (HB.out _ (hs.sub (.cons _ (.cons _ (.cons _ (.cons _ (.cons _ (.cons _ (.cons _ ((((List.sublist_append_left bs _).trans (List.sublist_append_left _ _)).trans (List.sublist_append_left _ _)).trans (List.sublist_append_left _ _)))))))))) kk.kp) ((MCof (c := c_Z) hs (by simp) rfl (fun r hr ↦ by simp [List.mem_map_of_mem hr]) hl_Z d_Z).mn B0.out) hnb len_mkM) rfl (by decide) (by omega) HR2.out (by decide) (by omega))
 rintro e w_13 ⟨o_Y, c_Y, rs_Y, rfl, hl_Y, hs_Y, d_Y, hb_13⟩
 replace hs := hs.mx hl_Y hs_Y; simp only [List.cons_append] at hs
 rw [brd_low (F := at2 A) hnb HKB.out] at d_Y
 refine hK _ _ rfl ⟨hb_13, (And.intro hs.g7 trivial)⟩ ?_
 clear hK K
 refine e0 hs ?_; clear hs; intro w_14 hs n14
 refine tl ?_
 have k7_14 := ((((((kb n8).b hb_9).b n10).b n11).b n12).b hb_13).b n14
 replace d_X := d_X.k k7_14
 have k13_14 := kb n14
 replace d_Y := d_Y.k k13_14
 have ho15 := rows_one hs (rs := rs_Y) (fun r hr => by simp [List.mem_map_of_mem hr])
 refine .aps 3 0 hs ho15 ?_ (eE := fun _ _ _ hs => (And.intro hs.g7 True.intro)); clear hs ho15; intro o_X_15 c_X_15 w_15 hs kp15 hw15; simp only [List.set_cons_succ, List.set_cons_zero] at hs
 refine tl ?_
 refine .r0 ?_ (e := (And.intro hs.g7 True.intro))
 refine tl ?_
 refine .r0 ?_ (e := (And.intro hs.g7 True.intro))
 refine tl ?_
 intro K hK
 have xs := hs.g7
 obtain ⟨d0, d1, d2, d3⟩ := hs.g7.f4
 have f0 := xs.free 0
 go_big_op
 have hd16 := xs.nod rfl rfl
 obtain ⟨w_16, eW, xs', ho16⟩ : ∃ w', (w_15.setCell ⟨p_t, 0, none⟩ ((.slice o_X_15 (n + nb) c_X_15))) = w' ∧ Bs w' p_t #[(.slice o_X_15 (n + nb) c_X_15), .int .i64 (n : Int), .int .i64 (k : Int), .bool false] 105 ∧ Only p_t w_15 w' := xs.setN [(0, (.slice o_X_15 (n + nb) c_X_15))]
 rw [eW]; clear eW d0 d1 d2 d3 f0 xs
 replace hs := hs.u7 kb_bt xs' ho16; clear xs'
 refine hK _ _ rfl (And.intro True.intro True.intro) ?_; clear hK K
 apply wpTail_end
 refine hK4 _ _ ?_
 refine wp_seq_k fun K5 hK5 => rg [0, 1] ?_
 refine sm ?_
 refine sm ?_
 apply wpSq_end
 refine hK5 _ _ ?_
 refine wp_ret ?_
 have k14_16 := kp15.o hd16 ho16
 replace d_X := d_X.k k14_16
 replace d_Y := d_Y.k k14_16
 have k12_16 := (((kb hb_13).b n14).t kp15).o hd16 ho16
 replace kk := kk.k k12_16
 try dsimp only [Exit.then, Exit.inBlock]
 refine bodyPost_ret (v := (.pointer (some ⟨p_t, 0, none⟩))) (by simp [results, Tryz.results80, go_sem]) rfl ?_
 exact ⟨_, _, _, rs_X ++ rs_Y, rfl, kb_bt, by rw [List.length_append, hl_X, hl_Y], by rw [← mkM_app]; exact RD.app d_Y d_X, hs.sub (by
   rw [List.map_append, List.map_append, ← List.append_assoc]
   exact .cons _ (.cons _ (.cons _ (.cons_cons _ (.cons _ (.cons _ (.cons _ (.cons_cons _ (List.Sublist.append (((List.Sublist.append ((List.sublist_append_left bs _).trans (List.sublist_append_left _ _)) (List.Sublist.refl _)).trans (List.sublist_append_left _ _))) (List.Sublist.refl _)))))))))), kk.kp⟩
theorem St.mxb {w0 w w' : World} {bs : List En} {v : Value} {rs : List Rw} {n p : Nat} {cs : Array Value} {ty : TypeId} (hs : St w0 bs w) (hn : rs.length = n) (h : St w (ls w.heap.size 51 1 v n (rs.map (·.v)) :: bx p cs ty :: ([] ++ rs.map (Rw.e w.heap.size))) w') (hp : Hid (w.heap.size ≤ p)) :
   St w0 (ls w0.heap.size 51 1 v n (rs.map (·.v)) :: bx p cs ty :: (bs ++ rs.map (Rw.e w0.heap.size))) w' := by
 rw [List.nil_append] at h
 have hge : ∀ {rs : List Rw}, AllE (rs.map (Rw.e w.heap.size)) w' → AllE (rs.map (Rw.e w0.heap.size)) w' ∧ (rs.map (Rw.e w0.heap.size)).map (·.1) = (rs.map (Rw.e w.heap.size)).map (·.1) ∧ ∀ e ∈ rs.map (Rw.e w.heap.size), ∀ k, e.1 = some k → w.heap.size ≤ k := by
   intro rs
   induction rs with
   | nil => exact fun _ => ⟨trivial, rfl, fun e he => by cases he⟩
   | cons r t ih =>
     intro ha
     obtain ⟨h1, h2, h3⟩ := ih ha.2
     refine ⟨⟨ls_mono ha.1 hs.k, h1⟩, by simp only [List.map_cons, List.cons.injEq]; exact ⟨rfl, h2⟩, fun e he k hk => ?_⟩
     rcases List.mem_cons.1 he with rfl | he
     · have h9 : Lst w' w.heap.size 38 4 r.v r.n r.xs := ha.1.1
       exact (h9.1.lt k hk).1
     · exact h3 e he k hk
 obtain ⟨h1, h2, h3⟩ := hge h.1.2.2
 have h0 : Ok (ls w0.heap.size 51 1 v n (rs.map (·.v))) w' := ls_mono h.1.1 hs.k
 have st : St w0 ((ls w0.heap.size 51 1 v n (rs.map (·.v)) :: bx p cs ty :: rs.map (Rw.e w0.heap.size)) ++ bs) w' := by
   have hb := hs.bl h.b
   refine ⟨?_, ?_, hb.b⟩
   · refine ⟨h0, h.1.2.1, ?_⟩
     have : ∀ {es : List En}, AllE es w' → AllE (es ++ bs) w' := by
       intro es
       induction es with
       | nil => exact fun _ => hb.1
       | cons e t ih => exact fun h => ⟨h.1, ih h.2⟩
     exact this h1
   · rw [List.map_append]
     have hfd : FD ((ls w0.heap.size 51 1 v n (rs.map (·.v)) :: bx p cs ty :: rs.map (Rw.e w0.heap.size)).map (·.1)) := by
       rw [List.map_cons, List.map_cons, h2]; exact h.2.1
     refine List.pairwise_append.2 ⟨hfd, hb.2.1, fun a ha b hb' k hk1 hk2 => ?_⟩
     have h4 := hs.lt b hb' k hk2
     obtain ⟨e, he, rfl⟩ := List.mem_map.1 ha
     rcases List.mem_cons.1 he with rfl | he
     · have h9 : Lst w' w.heap.size 51 1 v n (rs.map (·.v)) := h.1.1.1
       have := (h9.1.lt k hk1).1
       omega
     · rcases List.mem_cons.1 he with rfl | he
       · obtain rfl : p = k := Option.some.inj hk1
         have := hp.out
         omega
       · have h5 : e.1 ∈ (rs.map (Rw.e w.heap.size)).map (·.1) := by rw [← h2]; exact List.mem_map.2 ⟨e, he, rfl⟩
         obtain ⟨e', he', h6⟩ := List.mem_map.1 h5
         have := h3 e' he' k (h6.trans hk1)
         omega
 exact st.perm (List.Perm.cons _ (List.Perm.cons _ List.perm_append_comm))
theorem bordered_new (hst : St w0 bs w) (ha : MN la w0 oa A) (hna : A.length = n) (h : gd A) (hk : wd A = k) (hb' : MN lb w ob B) (hnb : B.length = nb) (hK : ∀ i, i < nb → (rw_ B i).length = K) (hKk : 0 < n → K = k) (hKl : K ≤ 1000) (hnb2 : nb ≤ 100) (hla : la ≤ 10000000) (hlb : lb ≤ 10000000) :
   Calls Tryz.prog 80 #[.slice oa n ca, .slice ob nb cb] w fun e w' => ∃ p o c rs, e = .returned (.pointer (some ⟨p, 0, none⟩)) ∧ Hid (w0.heap.size ≤ p) ∧ rs.length = n + nb ∧ RD w' rs (mkM (n + nb) (K + n) (brdG n K (at2 A) (at2 B))) ∧ Below w.heap.size w w' ∧
     St w0 (ls w0.heap.size 51 1 (.slice o (n + nb) c) (n + nb) (rs.map (·.v)) :: bx p #[.slice o (n + nb) c, .int .i64 (n : Int), .int .i64 (k : Int), .bool false] 105 :: (bs ++ rs.map (Rw.e w0.heap.size))) w' ∧ Kp w w' :=
 Calls.mono (bordered_any (St.nil w) (ha.bl stab_n hst.b) hna h hk (fun w' hw _ => hb'.bl stab_n hw.b) hnb hK hKk hKl hnb2 hla hlb) fun e w' ⟨p, o, c, rs, h1, h2, h3, h4, h5, h6⟩ =>
   ⟨p, o, c, rs, h1, hide (Nat.le_trans hst.k h2.out), h3, h4, h5.b, hst.mxb h3 h5 h2, h6⟩
end
end Go.Proofs.YtjfjlloibmebeaaGreat

/- gdet: the pivots of Adjugate. -/
namespace Go.Proofs.YtjfjlloibmebeaaGreat
open Go Go.RowKit Dig
set_option maxHeartbeats 4000000
set_option maxRecDepth 20000
set_option linter.unusedVariables false
section
variable {w w0 : World} {pt pv pn n c h m W k l L : Nat} {odd : Bool} {o : Option Addr} {rs : List Rw} {bs : List En} {F M : Nat → Nat → Int × Int}
theorem pivot_yes (hst : St w0 (ls w0.heap.size 51 1 (.slice o n c) n (rs.map (·.v)) :: bx pt #[.slice o n c, .int .i64 (h : Int), .int .i64 (m : Int), .bool odd] 105 :: (bs ++ rs.map (Rw.e w0.heap.size))) w)
   (kb_bt : Hid (w0.heap.size ≤ pt)) (hd : RD w rs (mkM n W F)) (hh : h ≤ n) (hm : m ≤ W) (hk : k ≤ h) (hk2 : k ≤ m) (hn : n ≤ 1000) (hW : W ≤ 1000) (hF : ∀ i, k ≤ i → i < h → ∀ j, k ≤ j → j < m → zl l (F i j)) (hl : l ≤ 20000000) (hex : ¬ ∀ i, k ≤ i → i < h → ∀ j, k ≤ j → j < m → F i j = (0, 0)) :
   Calls Tryz.prog 84 #[.pointer (some ⟨pt, 0, none⟩), .int .i64 (k : Int)] w fun e w' => ∃ v rs' F' odd' p i j, e = .returned (.tuple #[v, .bool true]) ∧ PC w' v p.1 p.2 ∧ (k ≤ i ∧ i < h ∧ k ≤ j ∧ j < m ∧ F i j ≠ (0, 0) ∧ F' = (fun r c => F (swr i k r) (swr j k c)) ∧ odd' = xo odd i j k ∧ p = F i j) ∧ rs'.length = n ∧ RD w' rs' (mkM n W F') ∧
     St w0 (ls w0.heap.size 51 1 (.slice o n c) n (rs'.map (·.v)) :: bx pt #[.slice o n c, .int .i64 (h : Int), .int .i64 (m : Int), .bool odd'] 105 :: (bs ++ rs'.map (Rw.e w0.heap.size))) w' ∧ Kp w w' :=
 Calls.mono (pivot_any hst kb_bt hd hh hm hk hk2 hn hW hF hl) fun e w' ⟨v, fd, rs', F', odd', p, h1, h2, h3, h4, h5, h6, h7⟩ => by
   rcases h3 with ⟨rfl, i, j, h8⟩ | ⟨_, _, _, _, h8⟩
   · exact ⟨v, rs', F', odd', p, i, j, h1, h2, h8, h4, h5, h6, h7⟩
   · exact absurd h8 hex
theorem pivot_no (hst : St w0 (ls w0.heap.size 51 1 (.slice o n c) n (rs.map (·.v)) :: bx pt #[.slice o n c, .int .i64 (h : Int), .int .i64 (m : Int), .bool odd] 105 :: (bs ++ rs.map (Rw.e w0.heap.size))) w)
   (kb_bt : Hid (w0.heap.size ≤ pt)) (hd : RD w rs (mkM n W F)) (hh : h ≤ n) (hm : m ≤ W) (hk : k ≤ h) (hk2 : k ≤ m) (hn : n ≤ 1000) (hW : W ≤ 1000) (hF : ∀ i, k ≤ i → i < h → ∀ j, k ≤ j → j < m → zl l (F i j)) (hl : l ≤ 20000000) (hex : ∀ i, k ≤ i → i < h → ∀ j, k ≤ j → j < m → F i j = (0, 0)) :
   Calls Tryz.prog 84 #[.pointer (some ⟨pt, 0, none⟩), .int .i64 (k : Int)] w fun e w' => ∃ v rs', e = .returned (.tuple #[v, .bool false]) ∧ PC w' v 0 0 ∧ rs'.length = n ∧ RD w' rs' (mkM n W F) ∧
     St w0 (ls w0.heap.size 51 1 (.slice o n c) n (rs'.map (·.v)) :: bx pt #[.slice o n c, .int .i64 (h : Int), .int .i64 (m : Int), .bool odd] 105 :: (bs ++ rs'.map (Rw.e w0.heap.size))) w' ∧ Kp w w' :=
 Calls.mono (pivot_any hst kb_bt hd hh hm hk hk2 hn hW hF hl) fun e w' ⟨v, fd, rs', F', odd', p, h1, h2, h3, h4, h5, h6, h7⟩ => by
   rcases h3 with ⟨rfl, i, j, a1, a2, a3, a4, a5, _⟩ | ⟨rfl, rfl, rfl, rfl, h8⟩
   · exact absurd (hex i a1 a2 j a3 a4) a5
   · exact ⟨v, rs', h1, h2, h4, h5, h6, h7⟩
theorem adj_front {A0 B C D : En} {bs bs' rr : List En} (hp : bs.Perm ([C, D] ++ bs')) : (A0 :: B :: (bs ++ rr)).Perm (A0 :: B :: C :: D :: (bs' ++ rr)) :=
 List.Perm.cons _ (List.Perm.cons _ (hp.append_right rr))
theorem pivS_adj (kb_bt : Hid (w0.heap.size ≤ pt)) (hn : n ≤ 64) (hB : MinB (n + n) (n + n) L (brd n M)) (hL : L ≤ 3000000) :
   PivS w0 83 #[] #[.pointer (some ⟨pv, 0, none⟩), .pointer (some ⟨pn, 0, none⟩)] o (n + n) c pt n n (n + n) (QA n M) (FinA n M) [bx pv #[.pointer (some ⟨pt, 0, none⟩)] 100, bx pn #[.int .i64 (n : Int)] 3] := by
 intro k w A F odd rs bs hes hQ hA hl hd hst
 obtain ⟨bs', hp⟩ := hes
 show Calls _ _ #[.int .i64 (k : Int), .pointer (some ⟨pv, 0, none⟩), .pointer (some ⟨pn, 0, none⟩)] w _
 have kk := KpF.r w
 have hst := hst.perm (adj_front hp)
 have HP := hide hp
 have hkn : k ≤ n := hQ.1
 have HB := hide (show ∀ i, k ≤ i → i < n → ∀ j, k ≤ j → j < n → zl L (F i j) from fun i h1 h2 j h3 h4 => by rw [hA i (by omega) j (by omega) h1 h3]; exact hQ.2.1.bd hB (by omega) (by omega) k i (by omega) j (by omega))
 have HA := hide hA
 have HQ := hide hQ
 clear hp hA hQ hB
 by_cases hex : ∀ i, k ≤ i → i < n → ∀ j, k ≤ j → j < n → F i j = (0, 0)
 · have HEX := hide hex
   clear hex
   by_cases hk1 : k + 1 = n
   · have t1 : ((k : Int) == (n : Int) - 1) = true := beq_iff_eq.2 (by omega)
     have HK1 := hide hk1
     clear hk1
     go_enter Tryz.func83, Tryz.ntmps83
     have hs := hst
     clear hst
     refine wp_seq_k fun K1 hK1 => rg [0, 1] ?_
     refine sq ?_
     refine .al hs ?_; clear hs; intro p_b1 w_1 hs n1 kb_b1
     refine sm ?_
     apply wpSq_end
     refine hK1 _ _ ?_
     refine wp_seq_k fun K2 hK2 => rg [0, 1, 2, 3, 4, 5, 6, 7, 8] ?_
     refine sq ?_
     refine .r1 hs.g3.f1 ?_
     refine sm ?_
     refine sq ?_
     intro K hK
     have k0_1 := kb n1
     replace hd := hd.k k0_1
     go_big_op
     go_fit (pivot_no (bs := bx p_b1 #[.bool false, .slice none 0 0, .bool false, .slice none 0 0] 38 :: bx pv #[.pointer (some ⟨pt, 0, none⟩)] 100 :: bx pn #[.int .i64 (n : Int)] 3 :: bs') (hs.perm ((List.Perm.swap _ _ _).trans (List.Perm.cons _ (List.Perm.swap _ _ _)))) kb_bt hd (by omega) (by omega) hkn hkn (by omega) (by omega) HB.out (by omega) HEX.out)
     have bb2 := hs.b
     rintro e w_2 ⟨_, rs2, rfl, ⟨n_pa, o_pa, k_pa, c_pa, n_pb, o_pb, k_pb, c_pb, rfl, p1, p2⟩, q1, hd2, hs', kp2⟩
     clear hs; have hs := hs'; clear hs'
     have bc2 := hs.b
     clear bb2 bc2
     refine hK _ _ rfl trivial ?_
     clear hK K
     refine sm ?_
     refine sr ?_
     refine sr ?_
     refine sq ?_
     refine .al hs ?_; clear hs; intro p_b2 w_3 hs n3 kb_b2
     refine sq ?_
     refine .s4 hs.g0 (fun _ => hs.u0 kb_b2) ?_; clear hs; intro w_4 hs hd4 ho4
     refine sm ?_
     apply wpSq_end
     refine hK2 _ _ ?_
     refine wp_seq_k ?_
     intro K3 hK3
     refine wp_region_f4 [(0, false), (1, false), (2, false), (3, false), (4, false), (5, false), (6, false), (7, false)] [8, 9] [] (fun _ => default) [0, 99, 99, 99, 1, 99, 99, 99, 99, 99] [] (.c hs.g0 (.c hs.g5 .n)) fn fun w_5 n5 => ?_
     replace hs := hs.bl n5
     refine f4 ?_
     refine fmv ?_
     refine fmv ?_
     refine fmv ?_
     refine f1 ?_
     refine f0 ?_
     refine f0 ?_
     refine f0 ?_
     refine e0 hs ?_; clear hs; intro w_6 hs n6
     refine tl ?_
     refine .s4 hs.g3 (fun _ => hs.u3 kb_b1) ?_ (e := fun _ hs => (And.intro hs.g0 (And.intro hs.g5 True.intro))); clear hs; intro w_7 hs hd7 ho7
     refine tl ?_
     refine .mv ?_ (e := (And.intro hs.g0 (And.intro hs.g5 True.intro)))
     apply wpTail_end
     refine hK3 _ _ ?_
     refine wp_ret ?_
     have k2_7 := ((((kb n3).o hd4 ho4).b n5).b n6).o hd7 ho7
     replace p1 := p1.k k2_7
     replace p2 := p2.k k2_7
     replace hd2 := hd2.k k2_7
     have k0_7 := (((((k0_1.t kp2).b n3).o hd4 ho4).b n5).b n6).o hd7 ho7
     replace kk := kk.k k0_7
     have hk9 := HK1.out
     try dsimp only [Exit.then, Exit.inBlock]
     obtain ⟨r0_0, r0_1, r0_2, r0_3⟩ := hs.g3.f4
     refine bodyPost_ret (v := (.tuple #[.agg #[.bool n_pa, .slice o_pa k_pa c_pa, .bool n_pb, .slice o_pb k_pb c_pb], .bool true])) (by simp [results, Tryz.results83, go_sem, r0_0, r0_1, r0_2, r0_3]) rfl ?_
     exact ⟨_, true, rs2, A, F, odd, (0, 0), rfl, .mk' p1 p2, .inl ⟨rfl, by omega, by omega, ⟨by omega, HQ.out.2.1, HQ.out.2.2.1, fun h => absurd h (by have := HK1.out; omega)⟩, HA.out, (by have h1 := HA.out k (by have := HK1.out; omega) k (by have := HK1.out; omega) (Nat.le_refl _) (Nat.le_refl _); rw [← h1]; exact (HEX.out k (Nat.le_refl _) (by have := HK1.out; omega) k (Nat.le_refl _) (by have := HK1.out; omega)).symm), (HQ.out.2.2.2 (by have := HK1.out; omega)).2.2.1, fun m _ => rfl⟩, q1, hd2, (hs.sub (.cons _ (.cons_cons _ (.cons_cons _ (.cons _ (List.Sublist.refl _)))))).perm (adj_front HP.out).symm, kk.kp⟩
   · have t1 : ((k : Int) == (n : Int) - 1) = false := beq_eq_false_iff_ne.2 (by omega)
     have HK1 := hide hk1
     clear hk1
     go_enter Tryz.func83, Tryz.ntmps83
     have hs := hst
     clear hst
     refine wp_seq_k fun K1 hK1 => rg [0, 1] ?_
     refine sq ?_
     refine .al hs ?_; clear hs; intro p_b1 w_1 hs n1 kb_b1
     refine sm ?_
     apply wpSq_end
     refine hK1 _ _ ?_
     refine wp_seq_k fun K2 hK2 => rg [0, 1, 2, 3, 4, 5, 6, 7, 8] ?_
     refine sq ?_
     refine .r1 hs.g3.f1 ?_
     refine sm ?_
     refine sq ?_
     intro K hK
     have k0_1 := kb n1
     replace hd := hd.k k0_1
     go_big_op
     go_fit (pivot_no (bs := bx p_b1 #[.bool false, .slice none 0 0, .bool false, .slice none 0 0] 38 :: bx pv #[.pointer (some ⟨pt, 0, none⟩)] 100 :: bx pn #[.int .i64 (n : Int)] 3 :: bs') (hs.perm ((List.Perm.swap _ _ _).trans (List.Perm.cons _ (List.Perm.swap _ _ _)))) kb_bt hd (by omega) (by omega) hkn hkn (by omega) (by omega) HB.out (by omega) HEX.out)
     have bb2 := hs.b
     rintro e w_2 ⟨_, rs2, rfl, ⟨n_pa, o_pa, k_pa, c_pa, n_pb, o_pb, k_pb, c_pb, rfl, p1, p2⟩, q1, hd2, hs', kp2⟩
     clear hs; have hs := hs'; clear hs'
     have bc2 := hs.b
     clear bb2 bc2
     refine hK _ _ rfl trivial ?_
     clear hK K
     refine sm ?_
     refine sr ?_
     refine sr ?_
     refine sq ?_
     refine .al hs ?_; clear hs; intro p_b2 w_3 hs n3 kb_b2
     refine sq ?_
     refine .s4 hs.g0 (fun _ => hs.u0 kb_b2) ?_; clear hs; intro w_4 hs hd4 ho4
     refine sm ?_
     apply wpSq_end
     refine hK2 _ _ ?_
     refine wp_seq_k ?_
     intro K3 hK3
     refine wp_region_f4 [(0, false), (1, false), (2, false), (3, false), (4, false), (5, false), (6, false), (7, false)] [8, 9] [] (fun _ => default) [0, 99, 99, 99, 1, 99, 99, 99, 99, 99] [] (.c hs.g0 (.c hs.g5 .n)) fn fun w_5 n5 => ?_
     replace hs := hs.bl n5
     refine f4 ?_
     refine fmv ?_
     refine fmv ?_
     refine fmv ?_
     refine f1 ?_
     refine f0 ?_
     refine f0 ?_
     refine f0 ?_
     refine e0 hs ?_; clear hs; intro w_6 hs n6
     refine tl ?_
     refine .s4 hs.g3 (fun _ => hs.u3 kb_b1) ?_ (e := fun _ hs => (And.intro hs.g0 (And.intro hs.g5 True.intro))); clear hs; intro w_7 hs hd7 ho7
     refine tl ?_
     refine .mv ?_ (e := (And.intro hs.g0 (And.intro hs.g5 True.intro)))
     apply wpTail_end
     refine hK3 _ _ ?_
     refine wp_ret ?_
     have k2_7 := ((((kb n3).o hd4 ho4).b n5).b n6).o hd7 ho7
     replace p1 := p1.k k2_7
     replace p2 := p2.k k2_7
     replace hd2 := hd2.k k2_7
     have k0_7 := (((((k0_1.t kp2).b n3).o hd4 ho4).b n5).b n6).o hd7 ho7
     replace kk := kk.k k0_7
     have hk9 := HK1.out
     try dsimp only [Exit.then, Exit.inBlock]
     obtain ⟨r0_0, r0_1, r0_2, r0_3⟩ := hs.g3.f4
     refine bodyPost_ret (v := (.tuple #[.agg #[.bool n_pa, .slice o_pa k_pa c_pa, .bool n_pb, .slice o_pb k_pb c_pb], .bool false])) (by simp [results, Tryz.results83, go_sem, r0_0, r0_1, r0_2, r0_3]) rfl ?_
     exact ⟨_, false, rs2, A, F, odd, (0, 0), rfl, .mk' p1 p2, .inr ⟨rfl, (by
       rcases Nat.eq_or_lt_of_le hkn with e | e
       · exact .inl e
       · exact .inr ⟨by have := HK1.out; omega, HQ.out.2.2.2 e, fun i h1 h2 j h3 h4 => by rw [← HA.out i (by omega) j (by omega) h1 h3]; exact HEX.out i h1 h2 j h3 h4⟩), rfl, rfl, rfl⟩, q1, hd2, (hs.sub (.cons _ (.cons_cons _ (.cons_cons _ (.cons _ (List.Sublist.refl _)))))).perm (adj_front HP.out).symm, kk.kp⟩
 · have HEX := hide hex
   clear hex
   go_enter Tryz.func83, Tryz.ntmps83
   have hs := hst
   clear hst
   refine wp_seq_k fun K1 hK1 => rg [0, 1] ?_
   refine sq ?_
   refine .al hs ?_; clear hs; intro p_b1 w_1 hs n1 kb_b1
   refine sm ?_
   apply wpSq_end
   refine hK1 _ _ ?_
   refine wp_seq_k fun K2 hK2 => rg [0, 1, 2, 3, 4, 5, 6, 7, 8] ?_
   refine sq ?_
   refine .r1 hs.g3.f1 ?_
   refine sm ?_
   refine sq ?_
   intro K hK
   have k0_1 := kb n1
   replace hd := hd.k k0_1
   go_big_op
   go_fit (pivot_yes (bs := bx p_b1 #[.bool false, .slice none 0 0, .bool false, .slice none 0 0] 38 :: bx pv #[.pointer (some ⟨pt, 0, none⟩)] 100 :: bx pn #[.int .i64 (n : Int)] 3 :: bs') (hs.perm ((List.Perm.swap _ _ _).trans (List.Perm.cons _ (List.Perm.swap _ _ _)))) kb_bt hd (by omega) (by omega) hkn hkn (by omega) (by omega) HB.out (by omega) HEX.out)
   have bb2 := hs.b
   rintro e w_2 ⟨_, rs2, F2, odd2, P, pi, pj, rfl, ⟨n_pa, o_pa, k_pa, c_pa, n_pb, o_pb, k_pb, c_pb, rfl, p1, p2⟩, HX, q1, hd2, hs', kp2⟩
   clear hs; have hs := hs'; clear hs'
   have bc2 := hs.b
   clear bb2 bc2
   refine hK _ _ rfl trivial ?_
   clear hK K
   refine sm ?_
   refine sr ?_
   refine sr ?_
   refine sq ?_
   refine .al hs ?_; clear hs; intro p_b2 w_3 hs n3 kb_b2
   refine sq ?_
   refine .s4 hs.g0 (fun _ => hs.u0 kb_b2) ?_; clear hs; intro w_4 hs hd4 ho4
   refine sm ?_
   apply wpSq_end
   refine hK2 _ _ ?_
   refine wp_seq_k ?_
   intro K3 hK3
   refine wp_region_f4 [(0, false), (1, false), (2, false), (3, false), (4, false), (5, false), (6, false), (7, false)] [8, 9] [] (fun _ => default) [0, 99, 99, 99, 1, 99, 99, 99, 99, 99] [] (.c hs.g0 (.c hs.g5 .n)) fn fun w_5 n5 => ?_
   replace hs := hs.bl n5
   refine f4 ?_
   refine fmv ?_
   refine fmv ?_
   refine fk ?_
   refine fk ?_
   refine fk ?_
   refine fk ?_
   refine f0 ?_
   refine e0 hs ?_; clear hs; intro w_6 hs n6
   refine tl ?_
   refine .s4 hs.g3 (fun _ => hs.u3 kb_b1) ?_ (e := fun _ hs => (And.intro hs.g0 (And.intro hs.g5 True.intro))); clear hs; intro w_7 hs hd7 ho7
   refine tl ?_
   refine .mv ?_ (e := (And.intro hs.g0 (And.intro hs.g5 True.intro)))
   apply wpTail_end
   refine hK3 _ _ ?_
   refine wp_ret ?_
   obtain ⟨hi, hi2, hj, hj2, h0, rfl, rfl, rfl⟩ := HX
   have k2_7 := ((((kb n3).o hd4 ho4).b n5).b n6).o hd7 ho7
   replace p1 := p1.k k2_7
   replace p2 := p2.k k2_7
   replace hd2 := hd2.k k2_7
   have k0_7 := (((((k0_1.t kp2).b n3).o hd4 ho4).b n5).b n6).o hd7 ho7
   replace kk := kk.k k0_7
   have e1 := HA.out pi (by omega) pj (by omega) hi hj
   have h9 : Dt.D k A pi pj ≠ 0 := by rw [← e1]; exact h0
   try dsimp only [Exit.then, Exit.inBlock]
   obtain ⟨r0_0, r0_1, r0_2, r0_3⟩ := hs.g3.f4
   refine bodyPost_ret (v := (.tuple #[.agg #[.bool n_pa, .slice o_pa k_pa c_pa, .bool n_pb, .slice o_pb k_pb c_pb], .bool true])) (by simp [results, Tryz.results83, go_sem, r0_0, r0_1, r0_2, r0_3]) rfl ?_
   exact ⟨_, true, rs2, (fun r c => A (swr pi k r) (swr pj k c)), _, _, F pi pj, rfl, .mk' p1 p2, .inl ⟨rfl, by omega, by omega, HQ.out.next hi hi2 hj hj2 h9, HA.out.next hi (by omega) hj (by omega), (by rw [D_swr hi hj, swr_k, swr_k]; exact e1), (by rw [det_swr hi hj (Nat.le_refl _)]; exact (HQ.out.2.2.2 (by omega)).2.2.1), fun s hs => det_swr hi hj hs⟩, q1, hd2, (hs.sub (.cons _ (.cons_cons _ (.cons_cons _ (.cons _ (List.Sublist.refl _)))))).perm (adj_front HP.out).symm, kk.kp⟩
theorem entP_adj : EntP 83 #[] #[.pointer (some ⟨pv, 0, none⟩), .pointer (some ⟨pn, 0, none⟩)] := fun _ _ => by kernel_rfl
end
end Go.Proofs.YtjfjlloibmebeaaGreat

/- gdet: a row of each of two own matrices in front of the state, whatever stands between. -/
namespace Go.Proofs.YtjfjlloibmebeaaGreat
open Go Go.RowKit Dig
set_option linter.unusedVariables false
section
variable {w0 w : World} {v u x : Value} {m n p q K J : Nat} {rs ts r1 r2 s1 s2 : List Rw} {Cs : List En} {xs xs' ys : List Value} {Ms Ns : List (List (Int × Int))}
theorem perm2a {α : Type} {a b : α} {cs ts rs : List α} : (a :: (cs ++ b :: (ts ++ rs))).Perm (b :: ((a :: (cs ++ rs)) ++ ts)) := by
 refine (List.Perm.cons _ List.perm_middle).trans ((List.Perm.swap _ _ _).trans (List.Perm.cons _ (List.Perm.cons _ ?_)))
 show (cs ++ (ts ++ rs)).Perm ((cs ++ rs) ++ ts)
 rw [List.append_assoc]
 exact List.Perm.append_left _ List.perm_append_comm
theorem perm2b {α : Type} {a b c : α} {cs ss rs : List α} : (c :: b :: ((a :: (cs ++ rs)) ++ ss)).Perm (a :: ((c :: b :: (cs ++ ss)) ++ rs)) := by
 refine (List.Perm.cons _ (List.Perm.swap _ _ _)).trans ((List.Perm.swap _ _ _).trans (List.Perm.cons _ (List.Perm.cons _ (List.Perm.cons _ ?_))))
 show ((cs ++ rs) ++ ss).Perm ((cs ++ ss) ++ rs)
 rw [List.append_assoc, List.append_assoc]
 exact List.Perm.append_left _ List.perm_append_comm
theorem St.row2c (hs : St w0 (ls w0.heap.size 51 1 v m (rs.map (·.v)) :: (Cs ++ ls w0.heap.size 51 1 u n (ts.map (·.v)) :: (ts.map (Rw.e w0.heap.size) ++ rs.map (Rw.e w0.heap.size)))) w)
   (hd : RD w rs Ms) (hp : p < Ms.length) (hK : Ms[p].length = K) (h0 : 0 < K) (he : RD w ts Ns) (hq : q < Ns.length) (hJ : Ns[q].length = J) (h1 : 0 < J) :
   ∃ r1 g c xs r2 s1 h d ys s2, rs = r1 ++ (⟨.slice (some ⟨g, 0, none⟩) K c, K, xs⟩ : Rw) :: r2 ∧ r1.length = p ∧ (rs.map (·.v))[p]? = some (.slice (some ⟨g, 0, none⟩) K c) ∧ GD w xs Ms[p] ∧
     ts = s1 ++ (⟨.slice (some ⟨h, 0, none⟩) J d, J, ys⟩ : Rw) :: s2 ∧ s1.length = q ∧ (ts.map (·.v))[q]? = some (.slice (some ⟨h, 0, none⟩) J d) ∧ GD w ys Ns[q] ∧
     St w0 (ls w0.heap.size 38 4 (.slice (some ⟨g, 0, none⟩) K c) K xs :: ls w0.heap.size 51 1 v m (rs.map (·.v)) :: ls w0.heap.size 38 4 (.slice (some ⟨h, 0, none⟩) J d) J ys :: ls w0.heap.size 51 1 u n (ts.map (·.v)) :: (Cs ++ (s1 ++ s2).map (Rw.e w0.heap.size) ++ (r1 ++ r2).map (Rw.e w0.heap.size))) w := by
 obtain ⟨s1, h, d, ys, s2, e1, e2, e3, e4, hs2⟩ := (hs.perm perm2a).row he hq hJ h1
 obtain ⟨r1, g, c, xs, r2, f1, f2, f3, f4, hs4⟩ := (hs2.perm perm2b).row hd hp hK h0
 exact ⟨r1, g, c, xs, r2, s1, h, d, ys, s2, f1, f2, f3, f4, e1, e2, e3, e4, hs4⟩
theorem St.unrow2c {y : Value} (hs : St w0 (ls w0.heap.size 38 4 x K xs' :: ls w0.heap.size 51 1 v m ((r1 ++ (⟨x, K, xs⟩ : Rw) :: r2).map (·.v)) :: ls w0.heap.size 38 4 y J ys :: ls w0.heap.size 51 1 u n ((s1 ++ (⟨y, J, ys⟩ : Rw) :: s2).map (·.v)) :: (Cs ++ (s1 ++ s2).map (Rw.e w0.heap.size) ++ (r1 ++ r2).map (Rw.e w0.heap.size))) w) :
   St w0 (ls w0.heap.size 51 1 v m ((r1 ++ (⟨x, K, xs'⟩ : Rw) :: r2).map (·.v)) :: (Cs ++ ls w0.heap.size 51 1 u n ((s1 ++ (⟨y, J, ys⟩ : Rw) :: s2).map (·.v)) :: ((s1 ++ (⟨y, J, ys⟩ : Rw) :: s2).map (Rw.e w0.heap.size) ++ (r1 ++ (⟨x, K, xs'⟩ : Rw) :: r2).map (Rw.e w0.heap.size)))) w := by
 have hs1 := St.unrow (bs := ls w0.heap.size 38 4 y J ys :: ls w0.heap.size 51 1 u n ((s1 ++ (⟨y, J, ys⟩ : Rw) :: s2).map (·.v)) :: (Cs ++ (s1 ++ s2).map (Rw.e w0.heap.size))) hs
 have hs3 := St.unrow (bs := ls w0.heap.size 51 1 v m ((r1 ++ (⟨x, K, xs'⟩ : Rw) :: r2).map (·.v)) :: (Cs ++ (r1 ++ (⟨x, K, xs'⟩ : Rw) :: r2).map (Rw.e w0.heap.size))) (hs1.perm perm2b.symm)
 exact hs3.perm perm2a.symm
end
end Go.Proofs.YtjfjlloibmebeaaGreat

/- A region at whose end a block is made, its calls having made others: it lies apart from these by its type. -/
namespace Go.Proofs.YtjfjlloibmebeaaGreat
open Go Go.RowKit Dig
set_option linter.unusedVariables false
def Typ (ty0 : TypeId) (e : En) : Prop := (∃ p cs ty, e = bx p cs ty ∧ ty ≠ ty0) ∨ ∃ B ty sz v n xs, e = ls B ty sz v n xs ∧ ty ≠ ty0
def AllT (ty0 : TypeId) (bs : List En) : Prop := ∀ e ∈ bs, Typ ty0 e
section
variable {ty0 : TypeId} {bs cs : List En}
theorem AllT.bx {p : Nat} {xs : Array Value} {ty : TypeId} (h : AllT ty0 bs) (hn : ty ≠ ty0 := by decide) : AllT ty0 (Go.Proofs.YtjfjlloibmebeaaGreat.bx p xs ty :: bs) := fun e he => by
 rcases List.mem_cons.1 he with rfl | he
 · exact .inl ⟨_, _, _, rfl, hn⟩
 · exact h e he
theorem AllT.ls {B sz n : Nat} {v : Value} {xs : List Value} {ty : TypeId} (h : AllT ty0 bs) (hn : ty ≠ ty0 := by decide) : AllT ty0 (Go.Proofs.YtjfjlloibmebeaaGreat.ls B ty sz v n xs :: bs) := fun e he => by
 rcases List.mem_cons.1 he with rfl | he
 · exact .inr ⟨_, _, _, _, _, _, rfl, hn⟩
 · exact h e he
theorem AllT.app (h : AllT ty0 bs) (h2 : AllT ty0 cs) : AllT ty0 (bs ++ cs) := fun e he => (List.mem_append.1 he).elim (h e) (h2 e)
theorem AllT.rows {B : Nat} {rs : List Rw} (hn : 38 ≠ ty0 := by decide) : AllT ty0 (rs.map (Rw.e B)) := fun e he => by
 obtain ⟨r, _, rfl⟩ := List.mem_map.1 he
 exact .inr ⟨_, _, _, _, _, _, rfl, hn⟩
theorem Typ.blk {e : En} {w : World} {k : Nat} (h : Typ ty0 e) (x : Ok e w) (hk : e.1 = some k) : ∃ cur ty fz, w.heap[k]? = some (.cells cur ty fz) ∧ ty ≠ ty0 := by
 rcases h with ⟨p, cs, ty, rfl, hn⟩ | ⟨B, ty, sz, v, n, xs, rfl, hn⟩
 · obtain rfl : p = k := Option.some.inj hk
   have y : Bs w p cs ty := x.1
   exact ⟨_, _, _, y, hn⟩
 · have L : Lst w B ty sz v n xs := x.1
   rcases L.1.2 with ⟨rfl, _⟩ | ⟨g, cap, cur, rfl, _, hg, _⟩
   · cases hk
   · obtain rfl : g = k := Option.some.inj hk
     exact ⟨_, _, _, hg, hn⟩
end
section
variable {P : Program} {l : List Oper} {Q : Act → World → Prop} {a : Act} {w w0 : World} {o : Oper} {k : Nat} {C : World → Prop} {ob : Nat → Obj} {B : Nat} {Gs : List (World → Prop)} {CL : List Nat} {bad : List (Nat × Nat)} {bs : List En}
theorem e1t {j0 : Nat} {cs0 : Array Value} {ty0 : TypeId} {a' : Nat → Act} (hs : St w0 bs w) (hl : AllT ty0 bs) (hk : w0.heap.size ≤ B)
   (h : ∀ w' p0, St w0 (bx p0 cs0 ty0 :: bs) w' → Below w.heap.size w w' → Hid (w0.heap.size ≤ p0) → Q (a' p0) w')
   (ha : ∀ p0, putF l (fun j => some (p0)) [j0] a = a' p0 := by intro p0; simp only [putF, nthO, Act.put, ptr, List.setIfInBounds_toArray, List.set_cons_succ, List.set_cons_zero, if_true, if_false, eq_self, Nat.reduceEqDiff, reduceIte]; rfl) (ho0 : ob j0 = .cells cs0 ty0 := by rfl) (hnd : [j0].Nodup := by decide) : wpFl P l C Gs CL ob [j0] B Q [] a w := by
 refine wpFl_end (a' := fun pt => a' (pt j0)) (fun pt => ?_) fun w' pt hb _ hF hD => ?_
 · rw [← ha]
   refine putF_congr fun j hj => ?_
   simp only [List.mem_cons, List.not_mem_nil, or_false] at hj
   congr 1
   rw [hj]
 · have y0 : Bs w' (pt j0) cs0 ty0 := by have := (hF j0 (by simp)).2; rw [ho0] at this; exact this
   have hx : ∀ j ∈ [j0], ∀ f ∈ bs.map (·.1), ∀ k, some (pt j) = some k → f ≠ some k := fun j hj f hf k hk2 hc => by
     have ej : j = j0 := by simpa using hj
     subst ej
     obtain ⟨e, he, rfl⟩ := List.mem_map.1 hf
     have key : ∀ {l : List En}, AllE l w → ∀ e ∈ l, Ok e w := by
       intro l
       induction l with
       | nil => intro _ e he; cases he
       | cons a t ih => intro h e he; rcases List.mem_cons.1 he with rfl | he; exact h.1; exact ih h.2 e he
     obtain ⟨cur, ty, fz, h1, h2⟩ := (hl e he).blk (key hs.1 _ he) hc
     have h3 : w'.heap[k]? = some (.cells cur ty fz) := by rw [hb.block k (hs.lt _ (List.mem_map_of_mem he) k hc)]; exact h1
     obtain rfl : pt j = k := Option.some.inj hk2
     have h4 : w'.heap[pt j]? = some (.cells cs0 ty0 (0, 0)) := y0
     rw [h4] at h3
     simp only [Option.some.injEq, Obj.cells.injEq] at h3
     exact h2 h3.2.1.symm
   have k0 := Nat.le_trans hk (hF j0 (by simp)).1
   have s0 : St w0 (bx (pt j0) cs0 ty0 :: bs) w' := .cons (.bx y0) (hx j0 (by simp)) (hs.bl hb)
   exact h w' (pt j0) s0 hb k0
end
end Go.Proofs.YtjfjlloibmebeaaGreat

/- The reference's Round of longer numbers. -/
namespace Go.Proofs.YtjfjlloibmebeaaGreat
open Go Go.RowKit Dig
set_option linter.unusedVariables false
set_option maxHeartbeats 4000000 in
set_option maxRecDepth 20000 in
theorem rround_big {w : World} {va vb : Value} {x y : Int} {l m : Nat} (ha : ZN w va x l) (hb' : ZN w vb y m) (hl : l ≤ 40000000) (hm : m ≤ 20000000) (h0 : y ≠ 0) :
   Calls Tryz.prog 220 #[va, vb] w fun e w' => ∃ v1 v2, e = .returned (.tuple #[v1, v2]) ∧ ZC w' v1 (rnd x y) ∧ ZC w' v2 (x - rnd x y * y) ∧ Below w.heap.size w w' := by
 have LX2 := hide (zlen_add ha.len ha.len)
 have LS := hide (show (dig (x + x + y).natAbs).length ≤ l + 1 + m + 1 from zlen_add (show (dig (x + x).natAbs).length ≤ l + 1 by
   have := add_len x.natAbs
   rw [val_dig] at this
   rw [show (x + x).natAbs = x.natAbs + x.natAbs by omega]
   have := ha.len
   omega) hb'.len)
 have LY := hide (show (dig (y + y).natAbs).length ≤ m + 1 by
   have := add_len y.natAbs
   rw [val_dig] at this
   rw [show (y + y).natAbs = y.natAbs + y.natAbs by omega]
   have := hb'.len
   omega)
 have LN := hide (rnd_len h0 ha.len)
 have LM := hide (zlen_mul LN.out hb'.len)
 have EN := hide (show (x + x + y).fdiv (y + y) = rnd x y by unfold rnd; rw [show x + x + y = 2 * x + y by omega, show y + y = 2 * y by omega])
 have H0 := hide (show y + y ≠ 0 by omega)
 clear h0
 obtain ⟨na, oa, ca, xs, rfl, hca, _, _, hxl⟩ := ha.open_
 obtain ⟨nb, ob, cb, ys, rfl, hcb, _, _, hyl⟩ := hb'.open_
 go_enter Tryz.func220, Tryz.ntmps220
 have hb := Below.refl w.heap.size w
 have hp := Bk.new w na (.slice oa xs.length ca)
 replace ha := ha.alloc (.cells #[.bool na, (.slice oa xs.length ca)] 36)
 replace hb' := hb'.alloc (.cells #[.bool na, (.slice oa xs.length ca)] 36)
 replace hb := hb.alloc hb.size (.cells #[.bool na, (.slice oa xs.length ca)] 36)
 have hq := Bk.new (w.alloc (.cells #[.bool na, (.slice oa xs.length ca)] 36)) nb (.slice ob ys.length cb)
 simp only [Bk.size_alloc] at hq
 replace ha := ha.alloc (.cells #[.bool nb, (.slice ob ys.length cb)] 36)
 replace hb' := hb'.alloc (.cells #[.bool nb, (.slice ob ys.length cb)] 36)
 replace hp := hp.alloc (.cells #[.bool nb, (.slice ob ys.length cb)] 36)
 replace hb := hb.alloc hb.size (.cells #[.bool nb, (.slice ob ys.length cb)] 36)
 have hz1 := Bk.new ((w.alloc (.cells #[.bool na, (.slice oa xs.length ca)] 36)).alloc (.cells #[.bool nb, (.slice ob ys.length cb)] 36)) false (.slice none 0 0)
 simp only [Bk.size_alloc] at hz1
 replace ha := ha.alloc (.cells #[.bool false, (.slice none 0 0)] 36)
 replace hb' := hb'.alloc (.cells #[.bool false, (.slice none 0 0)] 36)
 replace hp := hp.alloc (.cells #[.bool false, (.slice none 0 0)] 36)
 replace hq := hq.alloc (.cells #[.bool false, (.slice none 0 0)] 36)
 replace hb := hb.alloc hb.size (.cells #[.bool false, (.slice none 0 0)] 36)
 have hz2 := Bk.new (((w.alloc (.cells #[.bool na, (.slice oa xs.length ca)] 36)).alloc (.cells #[.bool nb, (.slice ob ys.length cb)] 36)).alloc (.cells #[.bool false, (.slice none 0 0)] 36)) false (.slice none 0 0)
 simp only [Bk.size_alloc] at hz2
 replace ha := ha.alloc (.cells #[.bool false, (.slice none 0 0)] 36)
 replace hb' := hb'.alloc (.cells #[.bool false, (.slice none 0 0)] 36)
 replace hp := hp.alloc (.cells #[.bool false, (.slice none 0 0)] 36)
 replace hq := hq.alloc (.cells #[.bool false, (.slice none 0 0)] 36)
 replace hz1 := hz1.alloc (.cells #[.bool false, (.slice none 0 0)] 36)
 replace hb := hb.alloc hb.size (.cells #[.bool false, (.slice none 0 0)] 36)
 replace ha := ha.drew
 replace hb' := hb'.drew
 replace hp := hp.drew
 replace hq := hq.drew
 replace hz1 := hz1.drew
 replace hz2 := hz2.drew
 replace hb := hb.drew
 have lt_hp := hp.lt
 have lt_hq := hq.lt
 have lt_hz1 := hz1.lt
 have lt_hz2 := hz2.lt
 have kb0 := hb.size
 go_wp2_with fail
 refine wp_region_fl [(0, false), (2, false), (4, false), (1, true), (3, true), (5, true), (6, true), (7, false), (8, false), (9, false)] [12, 13] [10, 11] (fun _ => obZ) [0, 99, 1, 99, 1, 99, 99, 99, 99, 99, 99, 99, 99, 99] [] (fun w' => w'.cell? ⟨w.heap.size, 0, none⟩ = some (.bool na) ∧ w'.cell? ⟨w.heap.size, 1, none⟩ = some (.slice oa xs.length ca) ∧ w'.cell? ⟨w.heap.size + 1, 0, none⟩ = some (.bool nb) ∧ w'.cell? ⟨w.heap.size + 1, 1, none⟩ = some (.slice ob ys.length cb)) [fun w' => w'.cell? ⟨w.heap.size, 0, none⟩ = some (.bool na) ∧ w'.cell? ⟨w.heap.size, 1, none⟩ = some (.slice oa xs.length ca), fun w' => w'.cell? ⟨w.heap.size + 1, 0, none⟩ = some (.bool nb) ∧ w'.cell? ⟨w.heap.size + 1, 1, none⟩ = some (.slice ob ys.length cb)] (by kernel_rfl) (by kernel_rfl) (by kernel_rfl) (by kernel_rfl) (by kernel_rfl) (by kernel_rfl) (by kernel_rfl) (by kernel_rfl) (by decide) (by intro j hj; simp only [List.mem_cons, List.not_mem_nil, or_false] at hj; rcases hj with rfl | rfl; all_goals exact ⟨_, rfl, rfl, fun ρ w => run_alloc_z w⟩) (by intro w' o hC; obtain ⟨c0, c1, c2, c3⟩ := hC; exact ⟨cell_alloc c0 o, cell_alloc c1 o, cell_alloc c2 o, cell_alloc c3 o⟩) (by intro w' hC G hG; obtain ⟨c0, c1, c2, c3⟩ := hC; simp only [List.mem_cons, List.not_mem_nil, or_false] at hG; rcases hG with rfl | rfl <;> first | exact ⟨c0, c1⟩ | exact ⟨c2, c3⟩) ⟨hp.facts.1, hp.facts.2.1, hq.facts.1, hq.facts.2.1⟩ ?_
 apply wpFl_ld
 case hG => rfl
 case hi => rfl
 case h1 => intro w' hC K hK; obtain ⟨c0, c1⟩ := hC; (first | go_big_move | go_big_op); exact hK
 case hw => kernel_rfl
 case hv => kernel_rfl
 case hb => kernel_rfl
 case hp => kernel_rfl
 apply wpFl_ld
 case hG => rfl
 case hi => rfl
 case h1 => intro w' hC K hK; obtain ⟨c0, c1⟩ := hC; (first | go_big_move | go_big_op); exact hK
 case hw => kernel_rfl
 case hv => kernel_rfl
 case hb => kernel_rfl
 case hp => kernel_rfl
 apply wpFl_ld
 case hG => rfl
 case hi => rfl
 case h1 => intro w' hC K hK; obtain ⟨c0, c1⟩ := hC; (first | go_big_move | go_big_op); exact hK
 case hw => kernel_rfl
 case hv => kernel_rfl
 case hb => kernel_rfl
 case hp => kernel_rfl
 apply wpFl_call
 case hi => rfl
 case hw => kernel_rfl
 case h =>
 intro w_1 hn hC
 clear hC
 replace ha := ha.below hn (Nat.le_refl _)
 replace hb' := hb'.below hn (Nat.le_refl _)
 replace hp := hp.below hn (Nat.le_refl _)
 replace hq := hq.below hn (Nat.le_refl _)
 replace hz1 := hz1.below hn (Nat.le_refl _)
 replace hz2 := hz2.below hn (Nat.le_refl _)
 replace hb := tmm hb hn
 clear hn
 intro K hK
 have kb_2 := hb.size
 go_big_op
 go_fit (twice_any ha (by omega))
 rintro e w_2 ⟨v1, rfl, g1, hb_2⟩
 replace ha := ha.below hb_2 (Nat.le_refl _)
 replace hb' := hb'.below hb_2 (Nat.le_refl _)
 replace hp := hp.below hb_2 (Nat.le_refl _)
 replace hq := hq.below hb_2 (Nat.le_refl _)
 replace hz1 := hz1.below hb_2 (Nat.le_refl _)
 replace hz2 := hz2.below hb_2 (Nat.le_refl _)
 replace hb := tmm hb hb_2
 refine hK _ _ rfl hb_2 ⟨hp.facts.1, hp.facts.2.1, hq.facts.1, hq.facts.2.1⟩ ?_
 clear hK K hb_2
 apply wpFl_call
 case hi => rfl
 case hw => kernel_rfl
 case h =>
 intro w_3 hn hC
 clear hC
 replace ha := ha.below hn (Nat.le_refl _)
 replace hb' := hb'.below hn (Nat.le_refl _)
 replace hp := hp.below hn (Nat.le_refl _)
 replace hq := hq.below hn (Nat.le_refl _)
 replace hz1 := hz1.below hn (Nat.le_refl _)
 replace hz2 := hz2.below hn (Nat.le_refl _)
 replace g1 := g1.below hn (Nat.le_refl _)
 replace hb := tmm hb hn
 clear hn
 intro K hK
 have kb_4 := hb.size
 go_big_op
 go_fit (rzadd_any (g1.zn LX2.out) hb' (by omega) (by omega))
 rintro e w_4 ⟨v2, rfl, g2, hb_4⟩
 replace ha := ha.below hb_4 (Nat.le_refl _)
 replace hb' := hb'.below hb_4 (Nat.le_refl _)
 replace hp := hp.below hb_4 (Nat.le_refl _)
 replace hq := hq.below hb_4 (Nat.le_refl _)
 replace hz1 := hz1.below hb_4 (Nat.le_refl _)
 replace hz2 := hz2.below hb_4 (Nat.le_refl _)
 replace g1 := g1.below hb_4 (Nat.le_refl _)
 replace hb := tmm hb hb_4
 refine hK _ _ rfl hb_4 ⟨hp.facts.1, hp.facts.2.1, hq.facts.1, hq.facts.2.1⟩ ?_
 clear hK K hb_4
 replace g2 := g2.rd
 clear g1
 apply wpFl_call
 case hi => rfl
 case hw => kernel_rfl
 case h =>
 intro w_5 hn hC
 clear hC
 replace ha := ha.below hn (Nat.le_refl _)
 replace hb' := hb'.below hn (Nat.le_refl _)
 replace hp := hp.below hn (Nat.le_refl _)
 replace hq := hq.below hn (Nat.le_refl _)
 replace hz1 := hz1.below hn (Nat.le_refl _)
 replace hz2 := hz2.below hn (Nat.le_refl _)
 replace g2 := g2.below hn (Nat.le_refl _)
 replace hb := tmm hb hn
 clear hn
 intro K hK
 have kb_6 := hb.size
 go_big_op
 go_fit (twice_any hb' (by omega))
 rintro e w_6 ⟨v3, rfl, g3, hb_6⟩
 replace ha := ha.below hb_6 (Nat.le_refl _)
 replace hb' := hb'.below hb_6 (Nat.le_refl _)
 replace hp := hp.below hb_6 (Nat.le_refl _)
 replace hq := hq.below hb_6 (Nat.le_refl _)
 replace hz1 := hz1.below hb_6 (Nat.le_refl _)
 replace hz2 := hz2.below hb_6 (Nat.le_refl _)
 replace g2 := g2.below hb_6 (Nat.le_refl _)
 replace hb := tmm hb hb_6
 refine hK _ _ rfl hb_6 ⟨hp.facts.1, hp.facts.2.1, hq.facts.1, hq.facts.2.1⟩ ?_
 clear hK K hb_6
 apply wpFl_call
 case hi => rfl
 case hw => kernel_rfl
 case h =>
 intro w_7 hn hC
 clear hC
 replace ha := ha.below hn (Nat.le_refl _)
 replace hb' := hb'.below hn (Nat.le_refl _)
 replace hp := hp.below hn (Nat.le_refl _)
 replace hq := hq.below hn (Nat.le_refl _)
 replace hz1 := hz1.below hn (Nat.le_refl _)
 replace hz2 := hz2.below hn (Nat.le_refl _)
 replace g2 := g2.below hn (Nat.le_refl _)
 replace g3 := g3.below hn (Nat.le_refl _)
 replace hb := tmm hb hn
 clear hn
 intro K hK
 have kb_8 := hb.size
 go_big_op
 go_fit (rfloor_any (g2.zn LS.out) (g3.zn LY.out) (by omega) (by omega) H0.out)
 rintro e w_8 ⟨v4, v5, rfl, g4, g5, hb_8⟩
 replace ha := ha.below hb_8 (Nat.le_refl _)
 replace hb' := hb'.below hb_8 (Nat.le_refl _)
 replace hp := hp.below hb_8 (Nat.le_refl _)
 replace hq := hq.below hb_8 (Nat.le_refl _)
 replace hz1 := hz1.below hb_8 (Nat.le_refl _)
 replace hz2 := hz2.below hb_8 (Nat.le_refl _)
 replace g2 := g2.below hb_8 (Nat.le_refl _)
 replace g3 := g3.below hb_8 (Nat.le_refl _)
 replace hb := tmm hb hb_8
 refine hK _ _ rfl hb_8 ⟨hp.facts.1, hp.facts.2.1, hq.facts.1, hq.facts.2.1⟩ ?_
 clear hK K hb_8
 rw [EN.out] at g4
 clear g2
 clear g3
 apply wpFl_ld
 case hG => rfl
 case hi => rfl
 case h1 => intro w' hC K hK; clear hC; (first | go_big_move | go_big_op); exact hK
 case hw => kernel_rfl
 case hv => kernel_rfl
 case hb => kernel_rfl
 case hp => kernel_rfl
 apply wpFl_ld
 case hG => rfl
 case hi => rfl
 case h1 => intro w' hC K hK; clear hC; (first | go_big_move | go_big_op); exact hK
 case hw => kernel_rfl
 case hv => kernel_rfl
 case hb => kernel_rfl
 case hp => kernel_rfl
 apply wpFl_ld
 case hG => rfl
 case hi => rfl
 case h1 => intro w' hC K hK; clear hC; (first | go_big_move | go_big_op); exact hK
 case hw => kernel_rfl
 case hv => kernel_rfl
 case hb => kernel_rfl
 case hp => kernel_rfl
 apply wpFl_end
 case ha => intro pt; simp only [putF, nthO, Act.put, ptr, List.setIfInBounds_toArray, List.set_cons_succ, List.set_cons_zero]; rfl
 case h =>
 intro w_9 pt hn hC hF hD
 clear hC
 replace ha := ha.below hn (Nat.le_refl _)
 replace hb' := hb'.below hn (Nat.le_refl _)
 replace hp := hp.below hn (Nat.le_refl _)
 replace hq := hq.below hn (Nat.le_refl _)
 replace hz1 := hz1.below hn (Nat.le_refl _)
 replace hz2 := hz2.below hn (Nat.le_refl _)
 replace g4 := g4.below hn (Nat.le_refl _)
 replace g5 := g5.below hn (Nat.le_refl _)
 replace hb := tmm hb hn
 clear hn
 obtain ⟨kB_hz3, hz3⟩ := hF 10 (by decide)
 replace hz3 := obZ_bk hz3
 obtain ⟨kB_hz4, hz4⟩ := hF 11 (by decide)
 replace hz4 := obZ_bk hz4
 have ne_hz3_hz4 := hD 10 (by decide) 11 (by decide) (by decide)
 clear hF hD
 generalize pt 10 = p_hz3 at *
 generalize pt 11 = p_hz4 at *
 clear pt
 have kb_hz3 := Nat.le_trans kb0 kB_hz3
 have ne_hp_hz3 : w.heap.size ≠ p_hz3 := Nat.ne_of_lt (Nat.lt_of_lt_of_le lt_hp kB_hz3)
 have ne_hq_hz3 : w.heap.size + 1 ≠ p_hz3 := Nat.ne_of_lt (Nat.lt_of_lt_of_le lt_hq kB_hz3)
 have ne_hz1_hz3 : w.heap.size + 1 + 1 ≠ p_hz3 := Nat.ne_of_lt (Nat.lt_of_lt_of_le lt_hz1 kB_hz3)
 have ne_hz2_hz3 : w.heap.size + 1 + 1 + 1 ≠ p_hz3 := Nat.ne_of_lt (Nat.lt_of_lt_of_le lt_hz2 kB_hz3)
 clear kB_hz3
 have kb_hz4 := Nat.le_trans kb0 kB_hz4
 have ne_hp_hz4 : w.heap.size ≠ p_hz4 := Nat.ne_of_lt (Nat.lt_of_lt_of_le lt_hp kB_hz4)
 have ne_hq_hz4 : w.heap.size + 1 ≠ p_hz4 := Nat.ne_of_lt (Nat.lt_of_lt_of_le lt_hq kB_hz4)
 have ne_hz1_hz4 : w.heap.size + 1 + 1 ≠ p_hz4 := Nat.ne_of_lt (Nat.lt_of_lt_of_le lt_hz1 kB_hz4)
 have ne_hz2_hz4 : w.heap.size + 1 + 1 + 1 ≠ p_hz4 := Nat.ne_of_lt (Nat.lt_of_lt_of_le lt_hz2 kB_hz4)
 clear kB_hz4
 clear lt_hp
 clear lt_hq
 clear lt_hz1
 clear lt_hz2
 clear kb0
 obtain ⟨sb_hz3, o_hz3, n_hz3, c_hz3, rfl⟩ := g4.open2
 apply wpTail_call
 case hi => rfl
 case hw => kernel_rfl
 case h =>
 intro K hK
 have c9_ := hz3.facts
 go_big_op
 have ho := Bk.only w_9 (p_hz3) sb_hz3 (.slice o_hz3 n_hz3 c_hz3)
 have hbx_ := hz3.bx
 replace ha := ha.frame hbx_ ho
 replace hb' := hb'.frame hbx_ ho
 replace hp := hp.frame ho (by first | assumption | (apply Ne.symm; assumption) | (simp; done) | omega)
 replace hq := hq.frame ho (by first | assumption | (apply Ne.symm; assumption) | (simp; done) | omega)
 replace hz1 := hz1.frame ho (by first | assumption | (apply Ne.symm; assumption) | (simp; done) | omega)
 replace hz2 := hz2.frame ho (by first | assumption | (apply Ne.symm; assumption) | (simp; done) | omega)
 replace g4 := g4.frame hbx_ ho
 replace g5 := g5.frame hbx_ ho
 replace hz4 := hz4.frame ho (by first | assumption | (apply Ne.symm; assumption) | (simp; done) | omega)
 replace hz3 := hz3.store sb_hz3 (.slice o_hz3 n_hz3 c_hz3)
 replace hb := (hb.setCell (p := ⟨p_hz3, 0, none⟩) (show w.heap.size ≤ p_hz3 by first | assumption | (simp; done) | omega) (.bool sb_hz3)).setCell (p := ⟨p_hz3, 1, none⟩) (show w.heap.size ≤ p_hz3 by first | assumption | (simp; done) | omega) (.slice o_hz3 n_hz3 c_hz3)
 refine hK _ _ rfl (And.intro (And.intro hp.facts.1 hp.facts.2.1) (And.intro (And.intro hq.facts.1 hq.facts.2.1) True.intro)) ?_
 clear hK K hbx_ ho c9_
 obtain ⟨sb_hz4, o_hz4, n_hz4, c_hz4, rfl⟩ := g5.open2
 apply wpTail_call
 case hi => rfl
 case hw => kernel_rfl
 case h =>
 intro K hK
 have c9_ := hz4.facts
 go_big_op
 have ho := Bk.only ((w_9.setCell ⟨p_hz3, 0, none⟩ (.bool sb_hz3)).setCell ⟨p_hz3, 1, none⟩ (.slice o_hz3 n_hz3 c_hz3)) (p_hz4) sb_hz4 (.slice o_hz4 n_hz4 c_hz4)
 have hbx_ := hz4.bx
 replace ha := ha.frame hbx_ ho
 replace hb' := hb'.frame hbx_ ho
 replace hp := hp.frame ho (by first | assumption | (apply Ne.symm; assumption) | (simp; done) | omega)
 replace hq := hq.frame ho (by first | assumption | (apply Ne.symm; assumption) | (simp; done) | omega)
 replace hz1 := hz1.frame ho (by first | assumption | (apply Ne.symm; assumption) | (simp; done) | omega)
 replace hz2 := hz2.frame ho (by first | assumption | (apply Ne.symm; assumption) | (simp; done) | omega)
 replace g4 := g4.frame hbx_ ho
 replace g5 := g5.frame hbx_ ho
 replace hz3 := hz3.frame ho (by first | assumption | (apply Ne.symm; assumption) | (simp; done) | omega)
 replace hz4 := hz4.store sb_hz4 (.slice o_hz4 n_hz4 c_hz4)
 replace hb := (hb.setCell (p := ⟨p_hz4, 0, none⟩) (show w.heap.size ≤ p_hz4 by first | assumption | (simp; done) | omega) (.bool sb_hz4)).setCell (p := ⟨p_hz4, 1, none⟩) (show w.heap.size ≤ p_hz4 by first | assumption | (simp; done) | omega) (.slice o_hz4 n_hz4 c_hz4)
 refine hK _ _ rfl (And.intro (And.intro hp.facts.1 hp.facts.2.1) (And.intro (And.intro hq.facts.1 hq.facts.2.1) True.intro)) ?_
 clear hK K hbx_ ho c9_
 apply wpTail_end
 replace ha := ha.drew
 replace hb' := hb'.drew
 replace hp := hp.drew
 replace hq := hq.drew
 replace hz1 := hz1.drew
 replace hz2 := hz2.drew
 replace g4 := g4.drew
 replace g5 := g5.drew
 replace hz3 := hz3.drew
 replace hz4 := hz4.drew
 replace hb := hb.drew
 have lt_hp := hp.lt
 have lt_hq := hq.lt
 have lt_hz1 := hz1.lt
 have lt_hz2 := hz2.lt
 have lt_hz3 := hz3.lt
 have lt_hz4 := hz4.lt
 have kb0 := hb.size
 go_wp2_with fail
 refine wp_region_fl [(0, false), (1, false), (2, false), (3, false), (4, true), (5, true)] [6, 7] [] (fun _ => obZ) [2, 0, 2, 1, 99, 99, 99, 99] [] (fun w' => w'.cell? ⟨w.heap.size, 0, none⟩ = some (.bool na) ∧ w'.cell? ⟨w.heap.size, 1, none⟩ = some (.slice oa xs.length ca) ∧ w'.cell? ⟨w.heap.size + 1, 0, none⟩ = some (.bool nb) ∧ w'.cell? ⟨w.heap.size + 1, 1, none⟩ = some (.slice ob ys.length cb) ∧ w'.cell? ⟨p_hz3, 0, none⟩ = some (.bool sb_hz3) ∧ w'.cell? ⟨p_hz3, 1, none⟩ = some (.slice o_hz3 n_hz3 c_hz3)) [fun w' => w'.cell? ⟨w.heap.size, 0, none⟩ = some (.bool na) ∧ w'.cell? ⟨w.heap.size, 1, none⟩ = some (.slice oa xs.length ca), fun w' => w'.cell? ⟨w.heap.size + 1, 0, none⟩ = some (.bool nb) ∧ w'.cell? ⟨w.heap.size + 1, 1, none⟩ = some (.slice ob ys.length cb), fun w' => w'.cell? ⟨p_hz3, 0, none⟩ = some (.bool sb_hz3) ∧ w'.cell? ⟨p_hz3, 1, none⟩ = some (.slice o_hz3 n_hz3 c_hz3)] (by kernel_rfl) (by kernel_rfl) (by kernel_rfl) (by kernel_rfl) (by kernel_rfl) (by kernel_rfl) (by kernel_rfl) (by kernel_rfl) (by decide) (by intro j hj; cases hj) (by intro w' o hC; obtain ⟨c0, c1, c2, c3, c4, c5⟩ := hC; exact ⟨cell_alloc c0 o, cell_alloc c1 o, cell_alloc c2 o, cell_alloc c3 o, cell_alloc c4 o, cell_alloc c5 o⟩) (by intro w' hC G hG; obtain ⟨c0, c1, c2, c3, c4, c5⟩ := hC; simp only [List.mem_cons, List.not_mem_nil, or_false] at hG; rcases hG with rfl | rfl | rfl <;> first | exact ⟨c0, c1⟩ | exact ⟨c2, c3⟩ | exact ⟨c4, c5⟩) ⟨hp.facts.1, hp.facts.2.1, hq.facts.1, hq.facts.2.1, hz3.facts.1, hz3.facts.2.1⟩ ?_
 apply wpFl_ld
 case hG => rfl
 case hi => rfl
 case h1 => intro w' hC K hK; obtain ⟨c0, c1⟩ := hC; (first | go_big_move | go_big_op); exact hK
 case hw => kernel_rfl
 case hv => kernel_rfl
 case hb => kernel_rfl
 case hp => kernel_rfl
 apply wpFl_ld
 case hG => rfl
 case hi => rfl
 case h1 => intro w' hC K hK; obtain ⟨c0, c1⟩ := hC; (first | go_big_move | go_big_op); exact hK
 case hw => kernel_rfl
 case hv => kernel_rfl
 case hb => kernel_rfl
 case hp => kernel_rfl
 apply wpFl_ld
 case hG => rfl
 case hi => rfl
 case h1 => intro w' hC K hK; obtain ⟨c0, c1⟩ := hC; (first | go_big_move | go_big_op); exact hK
 case hw => kernel_rfl
 case hv => kernel_rfl
 case hb => kernel_rfl
 case hp => kernel_rfl
 apply wpFl_ld
 case hG => rfl
 case hi => rfl
 case h1 => intro w' hC K hK; obtain ⟨c0, c1⟩ := hC; (first | go_big_move | go_big_op); exact hK
 case hw => kernel_rfl
 case hv => kernel_rfl
 case hb => kernel_rfl
 case hp => kernel_rfl
 apply wpFl_call
 case hi => rfl
 case hw => kernel_rfl
 case h =>
 intro w_10 hn hC
 clear hC
 replace ha := ha.below hn (Nat.le_refl _)
 replace hb' := hb'.below hn (Nat.le_refl _)
 replace hp := hp.below hn (Nat.le_refl _)
 replace hq := hq.below hn (Nat.le_refl _)
 replace hz1 := hz1.below hn (Nat.le_refl _)
 replace hz2 := hz2.below hn (Nat.le_refl _)
 replace g4 := g4.below hn (Nat.le_refl _)
 replace g5 := g5.below hn (Nat.le_refl _)
 replace hz3 := hz3.below hn (Nat.le_refl _)
 replace hz4 := hz4.below hn (Nat.le_refl _)
 replace hb := tmm hb hn
 clear hn
 intro K hK
 have kb_11 := hb.size
 go_big_op
 go_fit (rzmul_any (g4.zn LN.out) hb' (by omega) (by omega))
 rintro e w_11 ⟨v6, rfl, g6, hb_11⟩
 replace ha := ha.below hb_11 (Nat.le_refl _)
 replace hb' := hb'.below hb_11 (Nat.le_refl _)
 replace hp := hp.below hb_11 (Nat.le_refl _)
 replace hq := hq.below hb_11 (Nat.le_refl _)
 replace hz1 := hz1.below hb_11 (Nat.le_refl _)
 replace hz2 := hz2.below hb_11 (Nat.le_refl _)
 replace g4 := g4.below hb_11 (Nat.le_refl _)
 replace g5 := g5.below hb_11 (Nat.le_refl _)
 replace hz3 := hz3.below hb_11 (Nat.le_refl _)
 replace hz4 := hz4.below hb_11 (Nat.le_refl _)
 replace hb := tmm hb hb_11
 refine hK _ _ rfl hb_11 ⟨hp.facts.1, hp.facts.2.1, hq.facts.1, hq.facts.2.1, hz3.facts.1, hz3.facts.2.1⟩ ?_
 clear hK K hb_11
 replace g6 := g6.rd
 apply wpFl_call
 case hi => rfl
 case hw => kernel_rfl
 case h =>
 intro w_12 hn hC
 clear hC
 replace ha := ha.below hn (Nat.le_refl _)
 replace hb' := hb'.below hn (Nat.le_refl _)
 replace hp := hp.below hn (Nat.le_refl _)
 replace hq := hq.below hn (Nat.le_refl _)
 replace hz1 := hz1.below hn (Nat.le_refl _)
 replace hz2 := hz2.below hn (Nat.le_refl _)
 replace g4 := g4.below hn (Nat.le_refl _)
 replace g5 := g5.below hn (Nat.le_refl _)
 replace hz3 := hz3.below hn (Nat.le_refl _)
 replace hz4 := hz4.below hn (Nat.le_refl _)
 replace g6 := g6.below hn (Nat.le_refl _)
 replace hb := tmm hb hn
 clear hn
 intro K hK
 have kb_13 := hb.size
 go_big_op
 go_fit (rzsub_any ha (g6.zn LM.out) (by omega) (by omega))
 rintro e w_13 ⟨v7, rfl, g7, hb_13⟩
 replace ha := ha.below hb_13 (Nat.le_refl _)
 replace hb' := hb'.below hb_13 (Nat.le_refl _)
 replace hp := hp.below hb_13 (Nat.le_refl _)
 replace hq := hq.below hb_13 (Nat.le_refl _)
 replace hz1 := hz1.below hb_13 (Nat.le_refl _)
 replace hz2 := hz2.below hb_13 (Nat.le_refl _)
 replace g4 := g4.below hb_13 (Nat.le_refl _)
 replace g5 := g5.below hb_13 (Nat.le_refl _)
 replace hz3 := hz3.below hb_13 (Nat.le_refl _)
 replace hz4 := hz4.below hb_13 (Nat.le_refl _)
 replace g6 := g6.below hb_13 (Nat.le_refl _)
 replace hb := tmm hb hb_13
 refine hK _ _ rfl hb_13 ⟨hp.facts.1, hp.facts.2.1, hq.facts.1, hq.facts.2.1, hz3.facts.1, hz3.facts.2.1⟩ ?_
 clear hK K hb_13
 replace g7 := g7.rd
 apply wpFl_end
 case ha => intro pt; simp only [putF]; rfl
 case h =>
 intro w_14 pt hn hC hF hD
 clear hC
 replace ha := ha.below hn (Nat.le_refl _)
 replace hb' := hb'.below hn (Nat.le_refl _)
 replace hp := hp.below hn (Nat.le_refl _)
 replace hq := hq.below hn (Nat.le_refl _)
 replace hz1 := hz1.below hn (Nat.le_refl _)
 replace hz2 := hz2.below hn (Nat.le_refl _)
 replace g4 := g4.below hn (Nat.le_refl _)
 replace g5 := g5.below hn (Nat.le_refl _)
 replace hz3 := hz3.below hn (Nat.le_refl _)
 replace hz4 := hz4.below hn (Nat.le_refl _)
 replace g6 := g6.below hn (Nat.le_refl _)
 replace g7 := g7.below hn (Nat.le_refl _)
 replace hb := tmm hb hn
 clear hn
 clear hF hD
 clear lt_hp
 clear lt_hq
 clear lt_hz1
 clear lt_hz2
 clear lt_hz3
 clear lt_hz4
 clear kb0
 apply wpTail_call
 case hi => rfl
 case hw => kernel_rfl
 case h =>
 intro K hK
 have c9_ := hz1.facts
 go_big_op
 have ho := Bk.only w_14 (w.heap.size + 1 + 1) sb_hz3 (.slice o_hz3 n_hz3 c_hz3)
 have hbx_ := hz1.bx
 replace ha := ha.frame hbx_ ho
 replace hb' := hb'.frame hbx_ ho
 replace hp := hp.frame ho (by first | assumption | (apply Ne.symm; assumption) | (simp; done) | omega)
 replace hq := hq.frame ho (by first | assumption | (apply Ne.symm; assumption) | (simp; done) | omega)
 replace hz2 := hz2.frame ho (by first | assumption | (apply Ne.symm; assumption) | (simp; done) | omega)
 replace g4 := g4.frame hbx_ ho
 replace g5 := g5.frame hbx_ ho
 replace hz3 := hz3.frame ho (by first | assumption | (apply Ne.symm; assumption) | (simp; done) | omega)
 replace hz4 := hz4.frame ho (by first | assumption | (apply Ne.symm; assumption) | (simp; done) | omega)
 replace g6 := g6.frame hbx_ ho
 replace g7 := g7.frame hbx_ ho
 replace hz1 := hz1.store sb_hz3 (.slice o_hz3 n_hz3 c_hz3)
 replace hb := (hb.setCell (p := ⟨w.heap.size + 1 + 1, 0, none⟩) (show w.heap.size ≤ w.heap.size + 1 + 1 by first | assumption | (simp; done) | omega) (.bool sb_hz3)).setCell (p := ⟨w.heap.size + 1 + 1, 1, none⟩) (show w.heap.size ≤ w.heap.size + 1 + 1 by first | assumption | (simp; done) | omega) (.slice o_hz3 n_hz3 c_hz3)
 refine hK _ _ rfl (And.intro (And.intro hp.facts.1 hp.facts.2.1) (And.intro (And.intro hq.facts.1 hq.facts.2.1) (And.intro (And.intro hz3.facts.1 hz3.facts.2.1) True.intro))) ?_
 clear hK K hbx_ ho c9_
 obtain ⟨sb_hz2, o_hz2, n_hz2, c_hz2, rfl⟩ := g7.open2
 apply wpTail_call
 case hi => rfl
 case hw => kernel_rfl
 case h =>
 intro K hK
 have c9_ := hz2.facts
 go_big_op
 have ho := Bk.only ((w_14.setCell ⟨w.heap.size + 1 + 1, 0, none⟩ (.bool sb_hz3)).setCell ⟨w.heap.size + 1 + 1, 1, none⟩ (.slice o_hz3 n_hz3 c_hz3)) (w.heap.size + 1 + 1 + 1) sb_hz2 (.slice o_hz2 n_hz2 c_hz2)
 have hbx_ := hz2.bx
 replace ha := ha.frame hbx_ ho
 replace hb' := hb'.frame hbx_ ho
 replace hp := hp.frame ho (by first | assumption | (apply Ne.symm; assumption) | (simp; done) | omega)
 replace hq := hq.frame ho (by first | assumption | (apply Ne.symm; assumption) | (simp; done) | omega)
 replace hz1 := hz1.frame ho (by first | assumption | (apply Ne.symm; assumption) | (simp; done) | omega)
 replace g4 := g4.frame hbx_ ho
 replace g5 := g5.frame hbx_ ho
 replace hz3 := hz3.frame ho (by first | assumption | (apply Ne.symm; assumption) | (simp; done) | omega)
 replace hz4 := hz4.frame ho (by first | assumption | (apply Ne.symm; assumption) | (simp; done) | omega)
 replace g6 := g6.frame hbx_ ho
 replace g7 := g7.frame hbx_ ho
 replace hz2 := hz2.store sb_hz2 (.slice o_hz2 n_hz2 c_hz2)
 replace hb := (hb.setCell (p := ⟨w.heap.size + 1 + 1 + 1, 0, none⟩) (show w.heap.size ≤ w.heap.size + 1 + 1 + 1 by first | assumption | (simp; done) | omega) (.bool sb_hz2)).setCell (p := ⟨w.heap.size + 1 + 1 + 1, 1, none⟩) (show w.heap.size ≤ w.heap.size + 1 + 1 + 1 by first | assumption | (simp; done) | omega) (.slice o_hz2 n_hz2 c_hz2)
 refine hK _ _ rfl (And.intro (And.intro hp.facts.1 hp.facts.2.1) (And.intro (And.intro hq.facts.1 hq.facts.2.1) (And.intro (And.intro hz3.facts.1 hz3.facts.2.1) True.intro))) ?_
 clear hK K hbx_ ho c9_
 apply wpTail_end
 have f1 := hz1.facts
 have f2 := hz2.facts
 go_wp2
 refine bodyPost_ret (v := .tuple #[.agg #[.bool sb_hz3, .slice o_hz3 n_hz3 c_hz3], .agg #[.bool sb_hz2, .slice o_hz2 n_hz2 c_hz2]]) (by simp [results, Tryz.results220, go_sem, f1.1, f1.2.1, f2.1, f2.2.1]) rfl ?_
 exact ⟨_, _, rfl, g4, g7, hb⟩
end Go.Proofs.YtjfjlloibmebeaaGreat
