/- gint: digits, tops, what lies far inside, quotient. -/
import Derived.Test.YtpdfahompajbjaaT1ToG9
import Derived.Test.YtpdfahompajbjaaG3ToR10

namespace Go.Proofs.Ytpdfahompajbjaa
open Go Go.RowKit Dig
set_option linter.unusedVariables false
def tp (x : Int) (k : Nat) : Int := if x < 0 then -((x.natAbs / pw k : Nat) : Int) else ((x.natAbs / pw k : Nat) : Int)
theorem Rd.cut {w : World} {oa : Option Addr} {k cap : Nat} {xs : List Nat} (h : Rd w (.slice oa k cap) xs) (j : Nat) (hj : j ≤ k) :
    Rd w (.slice (if cap = j then oa else Option.map (fun x => x.add j) oa) (k - j) (cap - j)) (xs.drop j) := by
  obtain ⟨oa', cap', e, hc, ok, hx⟩ := h
  simp only [Value.slice.injEq] at e
  obtain ⟨rfl, rfl, rfl⟩ := e
  refine ⟨_, cap - j, by rw [List.length_drop], by rw [List.length_drop]; omega, ok.drop j, ?_⟩
  by_cases hn : xs.drop j = []
  · exact .inl hn
  · have hlt : j < xs.length := by
      rcases Nat.lt_or_ge j xs.length with h | h
      · exact h
      · exact absurd (List.drop_eq_nil_of_le h) hn
    obtain ⟨b, off, rfl, hcell⟩ := hx.resolve_left (fun h => by rw [h] at hlt; exact absurd hlt (Nat.not_lt_zero _))
    rw [if_neg (by omega)]
    refine .inr ⟨b, off + j, by simp [Addr.add], fun i hi => ?_⟩
    rw [List.length_drop] at hi
    have := hcell (j + i) (by omega)
    rw [List.getElem?_drop, Nat.add_assoc]
    exact this
section
variable {w : World} {va vb : Value} {x y u v : Int} {l m k n : Nat}
end
end Go.Proofs.Ytpdfahompajbjaa

/- gint: Turn, timesI, Canon; the reference's. -/
namespace Go.Proofs.Ytpdfahompajbjaa
open Go Go.RowKit Dig
set_option linter.unusedVariables false
section
variable {w : World} {va vb : Value} {x y u v : Int} {l m k n : Nat}
end
end Go.Proofs.Ytpdfahompajbjaa

/- gint: Cmp, IsUnit, Canon; the reference's. -/
namespace Go.Proofs.Ytpdfahompajbjaa
open Go Go.RowKit Dig
set_option linter.unusedVariables false
section
variable {w : World} {va vb : Value} {x y u v : Int} {l m k n : Nat}
theorem bits_bd {A l : Nat} (h : A < pw l) : bitsN A ≤ 32 * l := by
  rcases Nat.eq_zero_or_pos A with h0 | h0
  · rw [h0]; exact Nat.zero_le _
  · have h3 := bitsN_le (Nat.ne_of_gt h0)
    rw [pw_eq] at h
    have h4 := (Nat.pow_lt_pow_iff_right (by decide : 1 < 2)).1 (Nat.lt_of_le_of_lt h3 h)
    omega
end
end Go.Proofs.Ytpdfahompajbjaa

/- gint: digits, isFarInside, quotient. -/
namespace Go.Proofs.Ytpdfahompajbjaa
open Go Go.RowKit Dig
set_option linter.unusedVariables false
def far (x y u v : Int) : Prop := ((gT1 x y u v + gT1 x y u v).natAbs : Int) < gN u v - tp (gN u v) 1 ∧ ((gT2 x y u v + gT2 x y u v).natAbs : Int) < gN u v - tp (gN u v) 1
section
variable {w : World} {va vb : Value} {x y u v : Int} {l m k n : Nat}
end
end Go.Proofs.Ytpdfahompajbjaa

/- gint.quotient: the nearest, whichever way it is found. -/
namespace Go.Proofs.Ytpdfahompajbjaa
open Go Go.RowKit Dig
set_option linter.unusedVariables false
section
variable {w : World} {va vb : Value} {x y u v : Int} {l m k n : Nat}
end
end Go.Proofs.Ytpdfahompajbjaa

/- The divisions of Xgcd: what each keeps, where they end. -/
namespace Go.Proofs.Ytpdfahompajbjaa
open Go Go.RowKit Dig
set_option linter.unusedVariables false
structure GS where
  r1 : Int
  r2 : Int
  x1 : Int
  x2 : Int
  y1 : Int
  y2 : Int
  s1 : Int
  s2 : Int
  u1 : Int
  u2 : Int
  v1 : Int
  v2 : Int
def GS.step (t : GS) : GS :=
  let q1 := gQ1 t.r1 t.r2 t.s1 t.s2
  let q2 := gQ2 t.r1 t.r2 t.s1 t.s2
  { r1 := t.s1, r2 := t.s2, x1 := t.u1, x2 := t.u2, y1 := t.v1, y2 := t.v2
    s1 := t.r1 - (q1 * t.s1 - q2 * t.s2), s2 := t.r2 - (q1 * t.s2 + q2 * t.s1)
    u1 := t.x1 - (q1 * t.u1 - q2 * t.u2), u2 := t.x2 - (q1 * t.u2 + q2 * t.u1)
    v1 := t.y1 - (q1 * t.v1 - q2 * t.v2), v2 := t.y2 - (q1 * t.v2 + q2 * t.v1) }
def gfin : Nat → GS → GS
  | 0, t => t
  | n + 1, t => if gN t.s1 t.s2 = 0 then t else gfin n t.step
theorem gfin_done {n : Nat} {t : GS} (h : gN t.s1 t.s2 = 0) : gfin n t = t := by
  cases n with
  | zero => rfl
  | succ n => unfold gfin; rw [if_pos h]
theorem step_less {t : GS} (h : gN t.s1 t.s2 ≠ 0) : gN t.step.s1 t.step.s2 + gN t.step.s1 t.step.s2 ≤ gN t.s1 t.s2 := gR_half h
theorem gfin_fuel : ∀ (n m : Nat) (t : GS), (gN t.s1 t.s2).toNat ≤ n → (gN t.s1 t.s2).toNat ≤ m → gfin n t = gfin m t := by
  intro n
  induction n with
  | zero =>
    intro m t h1 h2
    have := gN_nonneg t.s1 t.s2
    rw [gfin_done (by omega), gfin_done (by omega)]
  | succ n ih =>
    intro m t h1 h2
    by_cases h0 : gN t.s1 t.s2 = 0
    · rw [gfin_done h0, gfin_done h0]
    · have hn := gN_nonneg t.s1 t.s2
      have hl := step_less h0
      have hs := gN_nonneg t.step.s1 t.step.s2
      cases m with
      | zero => omega
      | succ m =>
        show (if _ then _ else _) = (if _ then _ else _)
        rw [if_neg h0, if_neg h0]
        exact ih m _ (by omega) (by omega)
def GS.fin (t : GS) : GS := gfin (gN t.s1 t.s2).toNat t
theorem fin_done {t : GS} (h : gN t.s1 t.s2 = 0) : t.fin = t := gfin_done h
theorem fin_step {t : GS} (h : gN t.s1 t.s2 ≠ 0) : t.step.fin = t.fin := by
  have hn := gN_nonneg t.s1 t.s2
  have hl := step_less h
  have hs := gN_nonneg t.step.s1 t.step.s2
  unfold GS.fin
  obtain ⟨n, hk⟩ : ∃ n, (gN t.s1 t.s2).toNat = n + 1 := ⟨(gN t.s1 t.s2).toNat - 1, by omega⟩
  rw [hk]
  show _ = (if _ then _ else _)
  rw [if_neg h]
  exact gfin_fuel _ _ _ (Nat.le_refl _) (by omega)
def GS.start (a1 a2 b1 b2 : Int) : GS := { r1 := a1, r2 := a2, x1 := 1, x2 := 0, y1 := 0, y2 := 0, s1 := b1, s2 := b2, u1 := 0, u2 := 0, v1 := 1, v2 := 0 }
structure GI (a1 a2 b1 b2 : Int) (t : GS) : Prop where
  r : t.r1 = a1 * t.x1 - a2 * t.x2 + (b1 * t.y1 - b2 * t.y2) ∧ t.r2 = a1 * t.x2 + a2 * t.x1 + (b1 * t.y2 + b2 * t.y1)
  s : t.s1 = a1 * t.u1 - a2 * t.u2 + (b1 * t.v1 - b2 * t.v2) ∧ t.s2 = a1 * t.u2 + a2 * t.u1 + (b1 * t.v2 + b2 * t.v1)
  c : ∃ e : Int, (e = 1 ∨ e = -1) ∧ (t.r1 * t.u1 - t.r2 * t.u2 - (t.s1 * t.x1 - t.s2 * t.x2) = e * b1 ∧ t.r1 * t.u2 + t.r2 * t.u1 - (t.s1 * t.x2 + t.s2 * t.x1) = e * b2) ∧
    (t.r1 * t.v1 - t.r2 * t.v2 - (t.s1 * t.y1 - t.s2 * t.y2) = -e * a1 ∧ t.r1 * t.v2 + t.r2 * t.v1 - (t.s1 * t.y2 + t.s2 * t.y1) = -e * a2)
  nr : gN t.r1 t.r2 ≤ gN a1 a2 + gN b1 b2
  ns : gN t.s1 t.s2 ≤ gN a1 a2 + gN b1 b2
  nx : gN t.x1 t.x2 ≤ 4 * (gN a1 a2 + gN b1 b2) + 1
  ny : gN t.y1 t.y2 ≤ 4 * (gN a1 a2 + gN b1 b2) + 1
  nu : gN t.u1 t.u2 ≤ 4 * (gN a1 a2 + gN b1 b2) + 1
  nv : gN t.v1 t.v2 ≤ 4 * (gN a1 a2 + gN b1 b2) + 1
  su : gN t.s1 t.s2 * gN t.u1 t.u2 ≤ 2 * (gN a1 a2 + gN b1 b2)
  sv : gN t.s1 t.s2 * gN t.v1 t.v2 ≤ 2 * (gN a1 a2 + gN b1 b2)
  da : ∃ c1 c2 d1 d2 : Int, a1 = t.r1 * c1 - t.r2 * c2 + (t.s1 * d1 - t.s2 * d2) ∧ a2 = t.r1 * c2 + t.r2 * c1 + (t.s1 * d2 + t.s2 * d1)
  db : ∃ c1 c2 d1 d2 : Int, b1 = t.r1 * c1 - t.r2 * c2 + (t.s1 * d1 - t.s2 * d2) ∧ b2 = t.r1 * c2 + t.r2 * c1 + (t.s1 * d2 + t.s2 * d1)
theorem GI.start (a1 a2 b1 b2 : Int) : GI a1 a2 b1 b2 (GS.start a1 a2 b1 b2) := by
  have h1 := gN_nonneg a1 a2
  have h2 := gN_nonneg b1 b2
  have h3 : gN 0 0 = 0 := rfl
  have h4 : gN 1 0 = 1 := rfl
  exact {
    r := by constructor <;> (simp only [GS.start]; grind)
    s := by constructor <;> (simp only [GS.start]; grind)
    c := ⟨-1, .inr rfl, by constructor <;> (simp only [GS.start]; grind), by constructor <;> (simp only [GS.start]; grind)⟩
    nr := by simp only [GS.start]; omega
    ns := by simp only [GS.start]; omega
    nx := by simp only [GS.start]; omega
    ny := by simp only [GS.start]; omega
    nu := by simp only [GS.start]; omega
    nv := by simp only [GS.start]; omega
    su := by simp only [GS.start]; rw [h3]; omega
    sv := by simp only [GS.start]; rw [h4]; omega
    da := ⟨1, 0, 0, 0, by constructor <;> (simp only [GS.start]; grind)⟩
    db := ⟨0, 0, 1, 0, by constructor <;> (simp only [GS.start]; grind)⟩ }
theorem gN_add (a b c d : Int) : gN (a + c) (b + d) ≤ 2 * gN a b + 2 * gN c d := by
  have h1 := msq (a - c)
  have h2 := msq (b - d)
  have e : 2 * gN a b + 2 * gN c d - gN (a + c) (b + d) = (a - c) * (a - c) + (b - d) * (b - d) := by unfold gN; grind
  omega
theorem gN_sgn (e b1 b2 : Int) (he : e = 1 ∨ e = -1) : gN (e * b1) (e * b2) = gN b1 b2 := by
  rcases he with rfl | rfl <;> unfold gN <;> grind
theorem fac_step {s1 s2 u1 u2 u1' u2' t1 t2 b1 b2 e M : Int} (he : e = 1 ∨ e = -1) (h0 : gN s1 s2 ≠ 0) (hb : gN b1 b2 ≤ M)
    (e1 : s1 * u1' - s2 * u2' = e * b1 + (t1 * u1 - t2 * u2)) (e2 : s1 * u2' + s2 * u1' = e * b2 + (t1 * u2 + t2 * u1))
    (ht : gN t1 t2 + gN t1 t2 ≤ gN s1 s2) (hu : gN s1 s2 * gN u1 u2 ≤ 2 * M) : gN u1' u2' ≤ 4 * M ∧ gN t1 t2 * gN u1' u2' ≤ 2 * M := by
  have h1 := gN_mul s1 s2 u1' u2'
  rw [e1, e2] at h1
  have h2 := gN_add (e * b1) (e * b2) (t1 * u1 - t2 * u2) (t1 * u2 + t2 * u1)
  rw [gN_sgn e b1 b2 he, gN_mul] at h2
  have hn := gN_nonneg u1 u2
  have hn' := gN_nonneg u1' u2'
  have h3 := Int.mul_le_mul_of_nonneg_right ht hn
  have f1 : (gN t1 t2 + gN t1 t2) * gN u1 u2 = 2 * (gN t1 t2 * gN u1 u2) := by grind
  have h4 : gN s1 s2 * gN u1' u2' ≤ 4 * M := by omega
  have h5 := Int.mul_le_mul_of_nonneg_right ht hn'
  have f2 : (gN t1 t2 + gN t1 t2) * gN u1' u2' = 2 * (gN t1 t2 * gN u1' u2') := by grind
  have hp := gN_pos h0
  have h6 := Int.mul_le_mul_of_nonneg_right (show (1 : Int) ≤ gN s1 s2 by omega) hn'
  constructor <;> omega
theorem lin1 {r1 s1 s2 a1 a2 b1 b2 x1 x2 y1 y2 u1 u2 v1 v2 : Int} (q1 q2 : Int) (hr : r1 = a1 * x1 - a2 * x2 + (b1 * y1 - b2 * y2)) (h1 : s1 = a1 * u1 - a2 * u2 + (b1 * v1 - b2 * v2)) (h2 : s2 = a1 * u2 + a2 * u1 + (b1 * v2 + b2 * v1)) :
    r1 - (q1 * s1 - q2 * s2) = a1 * (x1 - (q1 * u1 - q2 * u2)) - a2 * (x2 - (q1 * u2 + q2 * u1)) + (b1 * (y1 - (q1 * v1 - q2 * v2)) - b2 * (y2 - (q1 * v2 + q2 * v1))) := by
  rw [hr, h1, h2]; clear hr h1 h2; grind
theorem lin2 {r2 s1 s2 a1 a2 b1 b2 x1 x2 y1 y2 u1 u2 v1 v2 : Int} (q1 q2 : Int) (hr : r2 = a1 * x2 + a2 * x1 + (b1 * y2 + b2 * y1)) (h1 : s1 = a1 * u1 - a2 * u2 + (b1 * v1 - b2 * v2)) (h2 : s2 = a1 * u2 + a2 * u1 + (b1 * v2 + b2 * v1)) :
    r2 - (q1 * s2 + q2 * s1) = a1 * (x2 - (q1 * u2 + q2 * u1)) + a2 * (x1 - (q1 * u1 - q2 * u2)) + (b1 * (y2 - (q1 * v2 + q2 * v1)) + b2 * (y1 - (q1 * v1 - q2 * v2))) := by
  rw [hr, h1, h2]; clear hr h1 h2; grind
theorem crs1 (r1 r2 s1 s2 x1 x2 u1 u2 q1 q2 : Int) : s1 * (x1 - (q1 * u1 - q2 * u2)) - s2 * (x2 - (q1 * u2 + q2 * u1)) - ((r1 - (q1 * s1 - q2 * s2)) * u1 - (r2 - (q1 * s2 + q2 * s1)) * u2) = -(r1 * u1 - r2 * u2 - (s1 * x1 - s2 * x2)) := by grind
theorem crs2 (r1 r2 s1 s2 x1 x2 u1 u2 q1 q2 : Int) : s1 * (x2 - (q1 * u2 + q2 * u1)) + s2 * (x1 - (q1 * u1 - q2 * u2)) - ((r1 - (q1 * s1 - q2 * s2)) * u2 + (r2 - (q1 * s2 + q2 * s1)) * u1) = -(r1 * u2 + r2 * u1 - (s1 * x2 + s2 * x1)) := by grind
theorem dvs1 (r1 r2 s1 s2 p1 p2 p3 p4 q1 q2 : Int) : s1 * (q1 * p1 - q2 * p2 + p3) - s2 * (q1 * p2 + q2 * p1 + p4) + ((r1 - (q1 * s1 - q2 * s2)) * p1 - (r2 - (q1 * s2 + q2 * s1)) * p2) = r1 * p1 - r2 * p2 + (s1 * p3 - s2 * p4) := by grind
theorem dvs2 (r1 r2 s1 s2 p1 p2 p3 p4 q1 q2 : Int) : s1 * (q1 * p2 + q2 * p1 + p4) + s2 * (q1 * p1 - q2 * p2 + p3) + ((r1 - (q1 * s1 - q2 * s2)) * p2 + (r2 - (q1 * s2 + q2 * s1)) * p1) = r1 * p2 + r2 * p1 + (s1 * p4 + s2 * p3) := by grind
theorem GI.step {a1 a2 b1 b2 : Int} {t : GS} (h : GI a1 a2 b1 b2 t) (h0 : gN t.s1 t.s2 ≠ 0) : GI a1 a2 b1 b2 t.step := by
  have hl := step_less h0
  have hpos := gN_nonneg t.step.s1 t.step.s2
  have hA := gN_nonneg a1 a2
  have hB := gN_nonneg b1 b2
  have hns := h.ns
  obtain ⟨e, he, ⟨c1, c2⟩, c3, c4⟩ := h.c
  obtain ⟨hr1, hr2⟩ := h.r
  obtain ⟨hs1, hs2⟩ := h.s
  obtain ⟨p1, p2, p3, p4, hp1, hp2⟩ := h.da
  obtain ⟨o1, o2, o3, o4, ho1, ho2⟩ := h.db
  have hnu := h.nu
  have hnv := h.nv
  have hsu := h.su
  have hsv := h.sv
  clear h
  obtain ⟨r1, r2, x1, x2, y1, y2, s1, s2, u1, u2, v1, v2⟩ := t
  simp only [GS.step] at *
  generalize gQ1 r1 r2 s1 s2 = q1 at *
  generalize gQ2 r1 r2 s1 s2 = q2 at *
  have he' : -e = 1 ∨ -e = -1 := by omega
  have F := fac_step (s1 := s1) (s2 := s2) (u1 := u1) (u2 := u2) (u1' := x1 - (q1 * u1 - q2 * u2)) (u2' := x2 - (q1 * u2 + q2 * u1)) (t1 := r1 - (q1 * s1 - q2 * s2)) (t2 := r2 - (q1 * s2 + q2 * s1)) (b1 := b1) (b2 := b2) (e := -e) (M := gN a1 a2 + gN b1 b2) he' h0 (by omega) (by have := crs1 r1 r2 s1 s2 x1 x2 u1 u2 q1 q2; rw [c1] at this; rw [Int.neg_mul]; omega) (by have := crs2 r1 r2 s1 s2 x1 x2 u1 u2 q1 q2; rw [c2] at this; rw [Int.neg_mul]; omega) hl hsu
  have H := fac_step (s1 := s1) (s2 := s2) (u1 := v1) (u2 := v2) (u1' := y1 - (q1 * v1 - q2 * v2)) (u2' := y2 - (q1 * v2 + q2 * v1)) (t1 := r1 - (q1 * s1 - q2 * s2)) (t2 := r2 - (q1 * s2 + q2 * s1)) (b1 := a1) (b2 := a2) (e := e) (M := gN a1 a2 + gN b1 b2) he h0 (by omega) (by have := crs1 r1 r2 s1 s2 y1 y2 v1 v2 q1 q2; rw [c3, Int.neg_mul] at this; omega) (by have := crs2 r1 r2 s1 s2 y1 y2 v1 v2 q1 q2; rw [c4, Int.neg_mul] at this; omega) hl hsv
  exact {
    r := ⟨hs1, hs2⟩
    s := ⟨lin1 q1 q2 hr1 hs1 hs2, lin2 q1 q2 hr2 hs1 hs2⟩
    c := ⟨-e, he', ⟨by rw [crs1, c1, Int.neg_mul], by rw [crs2, c2, Int.neg_mul]⟩, ⟨by rw [crs1, c3, Int.neg_mul (-e)], by rw [crs2, c4, Int.neg_mul (-e)]⟩⟩
    nr := hns
    ns := by
      have h9 : gN (r1 - (q1 * s1 - q2 * s2)) (r2 - (q1 * s2 + q2 * s1)) ≤ gN a1 a2 + gN b1 b2 := by omega
      exact h9
    nx := hnu
    ny := hnv
    nu := Int.le_trans F.1 (by omega)
    nv := Int.le_trans H.1 (by omega)
    su := F.2
    sv := H.2
    da := ⟨q1 * p1 - q2 * p2 + p3, q1 * p2 + q2 * p1 + p4, p1, p2, by rw [dvs1]; exact hp1, by rw [dvs2]; exact hp2⟩
    db := ⟨q1 * o1 - q2 * o2 + o3, q1 * o2 + q2 * o1 + o4, o1, o2, by rw [dvs1]; exact ho1, by rw [dvs2]; exact ho2⟩ }
theorem GI.fin : ∀ (n : Nat) {a1 a2 b1 b2 : Int} {t : GS}, GI a1 a2 b1 b2 t → (gN t.s1 t.s2).toNat ≤ n → GI a1 a2 b1 b2 t.fin ∧ gN t.fin.s1 t.fin.s2 = 0 := by
  intro n
  induction n with
  | zero =>
    intro a1 a2 b1 b2 t h hn
    have := gN_nonneg t.s1 t.s2
    rw [fin_done (by omega)]
    exact ⟨h, by omega⟩
  | succ n ih =>
    intro a1 a2 b1 b2 t h hn
    by_cases h0 : gN t.s1 t.s2 = 0
    · rw [fin_done h0]; exact ⟨h, h0⟩
    · have hp := gN_nonneg t.s1 t.s2
      have hl := step_less h0
      have hs := gN_nonneg t.step.s1 t.step.s2
      rw [← fin_step h0]
      exact ih (h.step h0) (by omega)
theorem len_norm {x y a1 a2 b1 b2 : Int} {l : Nat} (h : gN x y ≤ 4 * (gN a1 a2 + gN b1 b2) + 1) (h1 : (dig a1.natAbs).length ≤ l) (h2 : (dig a2.natAbs).length ≤ l) (h3 : (dig b1.natAbs).length ≤ l) (h4 : (dig b2.natAbs).length ≤ l) :
    (dig x.natAbs).length ≤ l + 1 ∧ (dig y.natAbs).length ≤ l + 1 := by
  have bd : ∀ z : Int, (dig z.natAbs).length ≤ l → -(pw l : Int) ≤ z ∧ z ≤ (pw l : Int) := by
    intro z hz
    have := Nat.lt_of_lt_of_le (lt_pw_dig z.natAbs) (pw_mono hz)
    omega
  have n1 := norm_ge (bd _ h1) (bd _ h2)
  have n2 := norm_ge (bd _ h3) (bd _ h4)
  have hp := pw_pos l
  have hpp : (1 : Int) ≤ (pw l : Int) * (pw l : Int) := by have := Int.mul_le_mul (show (1 : Int) ≤ (pw l : Int) by omega) (show (1 : Int) ≤ (pw l : Int) by omega) (by decide) (by omega); omega
  have e5 : (5 * (pw l : Int)) * (5 * (pw l : Int)) = 25 * ((pw l : Int) * (pw l : Int)) := by grind
  obtain ⟨r1, r2⟩ := norm_le (a := x) (b := y) (A := 5 * (pw l : Int)) (by omega) (by omega)
  have hpw : pw (l + 1) = pw l * 4294967296 := by rw [pw_add]; rfl
  exact ⟨dig_length_le (by omega), dig_length_le (by omega)⟩
end Go.Proofs.Ytpdfahompajbjaa
