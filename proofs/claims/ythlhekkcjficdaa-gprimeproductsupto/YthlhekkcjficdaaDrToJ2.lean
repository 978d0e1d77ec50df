/- No step of the machine lowers the number of answers drawn: a contract tells of `drawn` too. -/
import Derived.Calls
import Derived.Below
import Derived.Sort.Grow
import Derived.Deep.Draws
import Derived.Test.YthlhekkcjficdaaWkToG2
import Derived.Test.YthlhekkcjficdaaT1ToG7
import Derived.Shelf.SlSortCmp.InsertionK

namespace Go.Proofs.Ythlhekkcjficdaa
open Go
namespace Drawn
end Drawn

end Go.Proofs.Ythlhekkcjficdaa


/- A world that Below and drawn tell of is the old one, grown: what the kit's laws of sorting ask of a comparison. -/
namespace Go.Proofs.Ythlhekkcjficdaa
open Go Go.RowKit Go.Sort

theorem below_grow {W w' : World} (h : Below W.heap.size W w') (hd : W.drawn ≤ w'.drawn) : ∃ q os', w' = grow (W.drewN q) os' := by
  refine ⟨w'.drawn - W.drawn, w'.heap.extract W.heap.size w'.heap.size, ?_⟩
  obtain ⟨heap, tape, drawn, os, output⟩ := w'
  obtain ⟨h1, h2, h3, h4, h5⟩ := h
  dsimp only at h1 h2 h3 h4 h5 hd ⊢
  have e1 : heap = W.heap ++ heap.extract W.heap.size heap.size := by
    apply Array.ext_getElem?
    intro i
    by_cases hi : i < W.heap.size
    · rw [Array.getElem?_append_left hi, h5 i hi]
    · rw [Array.getElem?_append_right (by omega), Array.getElem?_extract]
      by_cases hj : i < heap.size
      · rw [if_pos (by omega), show W.heap.size + (i - W.heap.size) = i by omega]
      · rw [if_neg (by omega), Array.getElem?_eq_none (by omega)]
  have e2 : drawn = W.drawn + (drawn - W.drawn) := by omega
  show ({ heap := heap, tape := tape, drawn := drawn, os := os, output := output } : World) = { heap := W.heap ++ heap.extract W.heap.size heap.size, tape := W.tape, drawn := W.drawn + (drawn - W.drawn), os := W.os, output := W.output }
  rw [← e1, ← e2, h1, h2, h3]
/-- A contract that says what is answered and that nothing old turned tells the world exactly. -/
theorem calls_grown {P : Program} {f : FuncId} {args : Array Value} {W : World} {v : Value} (h : Calls P f args W fun e w' => e = .returned v ∧ Below W.heap.size W w') :
    Calls P f args W fun e w' => e = .returned v ∧ ∃ q os', w' = grow (W.drewN q) os' :=
  (calls_drawn h).mono fun _ _ ⟨⟨he, hb⟩, hd⟩ => ⟨he, below_grow hb (hd (by rw [he]; exact nofun))⟩
end Go.Proofs.Ythlhekkcjficdaa


/- What orders a number's factors: the comparison of gprime.Factor. -/
namespace Go.Proofs.Ythlhekkcjficdaa
open Go Go.RowKit Dig
set_option linter.unusedVariables false
section
variable {w : World} {x y u v : Int} {l m k n : Nat}
set_option maxHeartbeats 4000000 in
set_option maxRecDepth 20000 in
theorem facCmp {n1 n2 n3 n4 : Bool} {o1 o2 o3 o4 : Option Addr} {k1 c1 k2 c2 k3 c3 k4 c4 : Nat} {N M : Int} (ha1 : ZN w (.agg #[.bool n1, .slice o1 k1 c1]) x l) (ha2 : ZN w (.agg #[.bool n2, .slice o2 k2 c2]) y m)
    (hc1 : ZN w (.agg #[.bool n3, .slice o3 k3 c3]) u k) (hc2 : ZN w (.agg #[.bool n4, .slice o4 k4 c4]) v n) (hl : l ≤ 40000000) (hm : m ≤ 40000000) (hk : k ≤ 40000000) (hn : n ≤ 40000000) :
    Calls Try.prog 31 #[.agg #[.bool n1, .slice o1 k1 c1, .bool n2, .slice o2 k2 c2, .int .i64 N], .agg #[.bool n3, .slice o3 k3 c3, .bool n4, .slice o4 k4 c4, .int .i64 M]] w fun e w' => e = .returned (.int .i64 (gcmp x y u v)) ∧ Below w.heap.size w w' := by
  obtain ⟨R, hR⟩ : ∃ R, gcmp x y u v = R := ⟨_, rfl⟩
  have HR := hide hR
  rw [hR]
  clear hR
  go_enter Try.func31, Try.ntmps31
  have hs := St.nil w
  refine wp_seq_k ?_
  intro K1 hK1
  refine rg [0, 1, 2] ?_
  refine sq ?_
  refine .al hs ?_; clear hs; intro p_b1 w_1 hs n1 kb_b1
  refine sq ?_
  refine .al hs ?_; clear hs; intro p_b2 w_2 hs n2 kb_b2
  refine sq ?_
  refine .mv ?_
  apply wpSq_end
  refine hK1 _ _ ?_
  refine wp_seq_k ?_
  intro K2 hK2
  refine rg [0, 1, 2, 3, 4, 5] ?_
  refine sq ?_
  refine .r0 ?_
  refine sq ?_
  refine .r4 ⟨hs.g1.cell 0 rfl, hs.g1.cell 1 rfl, hs.g1.cell 2 rfl, hs.g1.cell 3 rfl⟩ ?_
  refine sq ?_
  refine .r0 ?_
  refine sq ?_
  refine .r4 ⟨hs.g0.cell 0 rfl, hs.g0.cell 1 rfl, hs.g0.cell 2 rfl, hs.g0.cell 3 rfl⟩ ?_
  refine sq ?_
  intro K hK
  have k0_2 := (kb n1).b n2
  replace ha1 := ha1.k k0_2
  replace ha2 := ha2.k k0_2
  replace hc1 := hc1.k k0_2
  replace hc2 := hc2.k k0_2
  go_big_op
  go_fit (gCmp_any (.mk' ha1 ha2) (.mk' hc1 hc2) hl hm hk hn)
  rintro e w_3 ⟨rfl, hb_3⟩
  replace hs := hs.bl hb_3
  rw [HR.out]
  refine hK _ _ rfl trivial ?_
  clear hK K
  refine sq ?_
  refine .mv ?_
  apply wpSq_end
  refine hK2 _ _ ?_
  refine wp_ret ?_
  try dsimp only [Exit.then, Exit.inBlock]
  refine bodyPost_ret (v := (.int .i64 R)) (by simp [results, Try.results31, go_sem]) rfl ?_
  have hb := hs.b
  exact ⟨rfl, hb⟩
end
end Go.Proofs.Ythlhekkcjficdaa


/- Factors, as a sort sees them: a strict weak order; a comparison that lays blocks. -/
namespace Go.Proofs.Ythlhekkcjficdaa
open Go Go.RowKit Dig
set_option linter.unusedVariables false

theorem gcmp_lt (x y u v : Int) : gcmp x y u v < 0 ↔ gN x y < gN u v ∨ (gN x y = gN u v ∧ (x < u ∨ (x = u ∧ y < v))) := by
  unfold gcmp or3 zcmp
  generalize gN x y = a
  generalize gN u v = b
  (repeat' split) <;> omega
/-- A factor as it lies in memory: a Gaussian integer and how often. -/
structure Pw where
  (x y n : Int)
  (n1 : Bool) (o1 : Option Addr) (k1 c1 : Nat) (n2 : Bool) (o2 : Option Addr) (k2 c2 : Nat)
def Pw.cells (p : Pw) : List Value := [.bool p.n1, .slice p.o1 p.k1 p.c1, .bool p.n2, .slice p.o2 p.k2 p.c2, .int .i64 p.n]
def Pw.ok (w : World) (p : Pw) : Prop := PN w (.agg #[.bool p.n1, .slice p.o1 p.k1 p.c1, .bool p.n2, .slice p.o2 p.k2 p.c2]) p.x 40000000 p.y 40000000
/-- Those that w can read. -/
abbrev Pws (w : World) : Type := { p : Pw // p.ok w }
instance (w : World) : Inhabited (Pws w) := ⟨⟨⟨0, 0, 0, false, none, 0, 0, false, none, 0, 0⟩, .mk' ((zc_zero w).zn (Nat.le_trans zlen_0 (by omega))) ((zc_zero w).zn (Nat.le_trans zlen_0 (by omega)))⟩⟩
def Pws.enc {w : World} (p : Pws w) : List Value := p.1.cells
def Pws.cf {w : World} (p q : Pws w) : Int := gcmp p.1.x p.1.y q.1.x q.1.y
theorem Pws.len {w : World} (p : Pws w) : p.enc.length = 5 := rfl
theorem Pws.one {w : World} (p : Pws w) : ∀ v ∈ p.enc, v.oneCell' = true := by
  intro v hv
  simp only [Pws.enc, Pw.cells, List.mem_cons, List.not_mem_nil, or_false] at hv
  rcases hv with rfl | rfl | rfl | rfl | rfl <;> rfl
theorem Pws.swo (w : World) : Sort.SWO (ltOf (Pws.cf (w := w))) := by
  refine ⟨fun p => ?_, fun p q r => ?_, fun p q r => ?_⟩ <;> simp only [ltOf, Pws.cf, decide_eq_true_eq, decide_eq_false_iff_not, gcmp_lt]
  · omega
  · generalize gN p.1.x p.1.y = a
    generalize gN q.1.x q.1.y = b
    generalize gN r.1.x r.1.y = c
    omega
  · generalize gN p.1.x p.1.y = a
    generalize gN q.1.x q.1.y = b
    generalize gN r.1.x r.1.y = c
    omega
/-- A sort's world keeps all numbers. -/
theorem kp_sort {α : Type} [Inhabited α] {enc : α → List Value} {k : Nat} {w : World} {blk off m : Nat} {d : Array α} {os : Array Obj} (hn : NoD w blk) : Kp w (sortWorldK enc k w blk off m d os) := by
  have h1 : Only blk w (Sort.putRowK enc k (Sort.ahead w m) blk off d) := by
    refine ⟨rfl, rfl, rfl, ?_, fun i hi => ?_⟩
    · show (w.heap.modify _ _).size = _
      simp
    · show (w.heap.modify _ _)[i]? = _
      rw [Array.getElem?_modify, if_neg (by omega)]
  refine (ko hn h1).b (w2 := sortWorldK enc k w blk off m d os) ⟨rfl, rfl, rfl, ?_, fun i hi => ?_⟩
  · show _ ≤ (_ ++ _ : Array Obj).size
    simp
  · show (_ ++ _ : Array Obj)[i]? = _
    rw [Array.getElem?_append_left hi]
theorem fac_lays {w : World} {blk off size : Nat} (hn : NoD w blk) : CmpLays Try.prog 31 #[] (Pws.enc (w := w)) 5 Pws.cf blk off size w := by
  intro m os dk hd p q
  have hp := p.2.k (kp_sort (enc := Pws.enc (w := w)) (k := 5) (off := off) (m := m) (d := dk) (os := os) hn)
  have hq := q.2.k (kp_sort (enc := Pws.enc (w := w)) (k := 5) (off := off) (m := m) (d := dk) (os := os) hn)
  obtain ⟨_, _, _, _, _, _, _, _, e, h1, h2⟩ := hp
  obtain ⟨_, _, _, _, _, _, _, _, e', h3, h4⟩ := hq
  simp only [Value.agg.injEq, Array.mk.injEq, List.cons.injEq, Value.bool.injEq, Value.slice.injEq, and_true] at e e'
  obtain ⟨rfl, ⟨rfl, rfl, rfl⟩, rfl, rfl, rfl, rfl⟩ := e
  obtain ⟨rfl, ⟨rfl, rfl, rfl⟩, rfl, rfl, rfl, rfl⟩ := e'
  exact calls_grown (facCmp h1 h2 h3 h4 (Nat.le_refl _) (Nat.le_refl _) (Nat.le_refl _) (Nat.le_refl _))
end Go.Proofs.Ythlhekkcjficdaa


/- Least divisors of whole numbers, and which squares of them are sums of two squares. -/
namespace Go.Proofs.Ythlhekkcjficdaa
open Go Go.RowKit Dig
def IsLf (n r : Nat) : Prop := r ∣ n ∧ 2 ≤ r ∧ ∀ d, 2 ≤ d → d ∣ n → r ≤ d
theorem IsLf.uniq {n r s : Nat} (h : IsLf n r) (k : IsLf n s) : r = s := Nat.le_antisymm (h.2.2 s k.2.1 k.1) (k.2.2 r h.2.1 h.1)
theorem IsLf.self {n r : Nat} (h : IsLf n r) : IsLf r r := ⟨Nat.dvd_refl r, h.2.1, fun d h2 hd => h.2.2 d h2 (Nat.dvd_trans hd h.1)⟩
theorem lf_div {n d : Nat} (h : 2 ≤ d) (hd : d ∣ n) (hl : ∀ e, 2 ≤ e → e < d → ¬ e ∣ n) : IsLf n d :=
  ⟨hd, h, fun e h2 he => Nat.le_of_not_lt fun hc => hl e h2 hc he⟩
theorem lf_none {n d : Nat} (h2 : 2 ≤ n) (hn : n < d * d) (hl : ∀ e, 2 ≤ e → e < d → ¬ e ∣ n) : IsLf n n := by
  refine ⟨Nat.dvd_refl n, h2, fun e he hd => Nat.le_of_not_lt fun hc => ?_⟩
  obtain ⟨f, hf⟩ := hd
  have hde : d ≤ e := Nat.le_of_not_lt fun hc => hl e he hc ⟨f, hf⟩
  have hf2 : 2 ≤ f := by
    rcases Nat.lt_or_ge f 2 with h | h
    · have : f = 0 ∨ f = 1 := by omega
      rcases this with rfl | rfl <;> simp at hf <;> omega
    · exact h
  have hdf : d ≤ f := Nat.le_of_not_lt fun hc => hl f hf2 hc ⟨e, by rw [hf, Nat.mul_comm]⟩
  have := Nat.mul_le_mul hde hdf
  omega
theorem IsLf.euclid {p a b : Nat} (h : IsLf p p) (hd : p ∣ a * b) : p ∣ a ∨ p ∣ b := by
  by_cases h1 : Nat.gcd p a = 1
  · exact .inr (Nat.Coprime.dvd_of_dvd_mul_left h1 hd)
  · have h0 : Nat.gcd p a ≠ 0 := fun hc => by have := Nat.eq_zero_of_gcd_eq_zero_left hc; have := h.2.1; omega
    have := h.2.2 _ (by omega) (Nat.gcd_dvd_left p a)
    have h2 := Nat.le_of_dvd (by have := h.2.1; omega) (Nat.gcd_dvd_left p a)
    have : Nat.gcd p a = p := by omega
    exact .inl (this ▸ Nat.gcd_dvd_right p a)
theorem sq_mod4 (x : Nat) : x * x % 4 = 0 ∧ x % 2 = 0 ∨ x * x % 4 = 1 ∧ x % 2 = 1 := by
  have : x % 4 = 0 ∨ x % 4 = 1 ∨ x % 4 = 2 ∨ x % 4 = 3 := by omega
  rw [Nat.mul_mod]
  rcases this with h | h | h | h <;> rw [h] <;> simp <;> omega
end Go.Proofs.Ythlhekkcjficdaa


/- gprime.leastDivisor and the reference's Least. -/
namespace Go.Proofs.Ythlhekkcjficdaa
open Go Go.RowKit Dig
set_option linter.unusedVariables false

theorem lf_bd {n k : Nat} (h : k * k ≤ n) (hn : n < 4294967296) : k ≤ 65535 := by
  rcases Nat.lt_or_ge k 65536 with h1 | h1
  · omega
  · have := Nat.mul_le_mul h1 h1
    omega
set_option maxHeartbeats 1000000 in
set_option maxRecDepth 20000 in
theorem least_u64 (n : Nat) (w : World) (h2 : 2 ≤ n) (hn : n < 4294967296) :
    Calls Try.prog 50 #[.int .u64 (n : Int)] w fun e w' => ∃ r : Nat, e = .returned (.int .u64 (r : Int)) ∧ IsLf n r ∧ w = w' := by
  go_enter Try.func50, Try.ntmps50
  go_wp2
  go_loopw [3] (fun d wr => ∃ k : Nat, d = .int .u64 (k : Int) ∧ 2 ≤ k ∧ k ≤ 65536 ∧ Hid (∀ e, 2 ≤ e → e < k → ¬ e ∣ n) ∧ w = wr) (fun d _ => 65537 - (intOf d).toNat)
  case atStart => exact ⟨2, rfl, by omega, by omega, hide (fun e h1 h2 => by omega), rfl⟩
  case round =>
    obtain ⟨k, rfl, hk2, hkb, hI, rfl⟩ := hrel
    have hp : (k : Int) * (k : Int) = ((k * k : Nat) : Int) := by simp
    have hpb : k * k < 18446744073709 := Nat.lt_of_le_of_lt (Nat.mul_le_mul hkb hkb) (by decide)
    by_cases hkk : k * k ≤ n
    · have hkl := lf_bd hkk hn
      by_cases hd : n % k = 0
      · have hL := hide (lf_div hk2 (Nat.dvd_of_mod_eq_zero hd) hI.out)
        have hm : Int.tmod (n : Int) (k : Int) = 0 := by rw [← Int.ofNat_tmod, hd]; rfl
        have hk0 : ((k : Int) == 0) = false := by simp; omega
        clear hd hI
        generalize k * k = q at *
        have h5 : ((q : Int) ≤ (n : Int)) = True := by simp; omega
        clear hkk
        go_wp2
        go_ret
        exact ⟨k, rfl, hL.out, rfl⟩
      · have hm : Int.tmod (n : Int) (k : Int) = ((n % k : Nat) : Int) := by rw [Int.ofNat_tmod]
        have hk0 : ((k : Int) == 0) = false := by simp; omega
        have hI' : Hid (∀ e, 2 ≤ e → e < k + 1 → ¬ e ∣ n) := hide (fun e h1 h2 hc => by
          rcases Nat.lt_or_ge e k with h | h
          · exact hI.out e h1 h hc
          · obtain rfl : e = k := by omega
            exact hd (Nat.mod_eq_zero_of_dvd hc))
        clear hI
        generalize n % k = r at *
        have hr0 : ((r : Int) == 0) = false := by simp; omega
        generalize k * k = q at *
        have h5 : ((q : Int) ≤ (n : Int)) = True := by simp; omega
        clear hkk hd
        go_wp2
        go_roundw
        case rel => exact ⟨k + 1, by go_num, by omega, by omega, hI', trivial⟩
        case measure => simp [intOf]; omega
    · have hL := hide (lf_none h2 (Nat.lt_of_not_le hkk) hI.out)
      clear hI
      generalize k * k = q at *
      have h5 : ((q : Int) ≤ (n : Int)) = False := by simp; omega
      clear hkk
      go_wp2
      go_ret
      exact ⟨n, rfl, hL.out, rfl⟩
end Go.Proofs.Ythlhekkcjficdaa

