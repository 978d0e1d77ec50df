/- Texts of whole numbers, read back. -/
import Derived.Test.YtpdfahompajbjaaDoorT1ToG2
import Derived.Test.YtpdfahompajbjaaDoorG24

namespace Go.Proofs.YtpdfahompajbjaaDoor
open Go Go.RowKit Dig Lib
set_option linter.unusedVariables false

theorem b8_nat (d : Nat) (h : d < 10) : (UInt8.ofNat (48 + d)).toNat = 48 + d := by
  rw [UInt8.toNat_ofNat']
  omega
theorem isD_b8 (d : Nat) (h : d < 10) : isD (UInt8.ofNat (48 + d)) = true := by
  unfold isD
  rw [b8_nat d h]
  exact decide_eq_true (by omega)
theorem dec_one (d : Nat) (h : d < 10) : decDigits d = [UInt8.ofNat (48 + d)] := by
  rw [decDigits, dif_pos h]
theorem dec_more (n : Nat) (h : ¬ n < 10) : decDigits n = decDigits (n / 10) ++ [UInt8.ofNat (48 + n % 10)] := by
  rw [decDigits, dif_neg h]
theorem dec_facts (n : Nat) : (decDigits n).all isD = true ∧ pval (decDigits n) = n ∧ 0 < (decDigits n).length ∧ (0 < n → ∃ c, (decDigits n)[0]? = some c ∧ 48 < c.toNat) := by
  induction n using Nat.strongRecOn with
  | ind n ih =>
    by_cases h : n < 10
    · rw [dec_one n h]
      refine ⟨by rw [List.all_cons, isD_b8 n h]; rfl, ?_, by simp, fun hp => ⟨_, rfl, by rw [b8_nat n h]; omega⟩⟩
      simp only [pval, List.foldl_cons, List.foldl_nil, b8_nat n h]
      omega
    · rw [dec_more n h]
      obtain ⟨h1, h2, h3, h4⟩ := ih (n / 10) (by omega)
      refine ⟨by rw [List.all_append, h1, List.all_cons, isD_b8 (n % 10) (by omega)]; rfl, ?_, by simp, fun _ => ?_⟩
      · rw [pval_snoc, h2, b8_nat _ (by omega)]; omega
      · obtain ⟨c, hc, hk⟩ := h4 (by omega)
        exact ⟨c, by rw [List.getElem?_append_left h3]; exact hc, hk⟩
theorem minus_no' {s : ByteArray} (h : digitsB s.data.toList = true) : minusB s = false := by
  have h0 := digits_pos h
  rw [minus_at s h0]
  have h1 := digits_all' h
  have h2 : s[0] ∈ s.data.toList := by
    have : s[0] = s.data.toList[0]'(by rw [← Lib.size_eq]; exact h0) := rfl
    rw [this]; exact List.getElem_mem _
  have h3 := List.all_eq_true.1 h1 _ h2
  unfold isD at h3
  have h4 := of_decide_eq_true h3
  rw [beq_eq_false_iff_ne]
  omega
/-- A whole number's text, as a list. -/
def zlist (z : Int) : List UInt8 := if z < 0 then (45 : UInt8) :: decDigits z.natAbs else decDigits z.natAbs
theorem dec_digits (n : Nat) : digitsB (decDigits n) = true := by
  obtain ⟨h1, _, h3, _⟩ := dec_facts n
  unfold digitsB
  rw [h1, Bool.true_and]
  cases h : decDigits n with
  | nil => rw [h] at h3; exact absurd h3 (by decide)
  | cons c l => rfl
theorem ext_one {s : ByteArray} {c : UInt8} {l : List UInt8} (hs : s.data.toList = c :: l) : (s.extract 1 s.size).data.toList = l := by
  rw [extract_data, hs, size_eq, hs]
  simp
theorem minus_zlist {s : ByteArray} {z : Int} (hs : s.data.toList = zlist z) : minusB s = decide (z < 0) := by
  unfold zlist at hs
  by_cases h : z < 0
  · rw [if_pos h] at hs
    unfold minusB
    rw [decide_eq_true h, size_eq, hs, extract_toList, hs]
    simp
  · rw [if_neg h] at hs
    rw [decide_eq_false h]
    exact minus_no' (by rw [hs]; exact dec_digits _)
theorem zok_zlist {s : ByteArray} {z : Int} (hs : s.data.toList = zlist z) : zok s = true ∧ zvl s = z := by
  have hm := minus_zlist hs
  unfold zlist at hs
  unfold zok zvl
  by_cases h : z < 0
  · rw [if_pos h] at hs
    rw [decide_eq_true h] at hm
    rw [if_pos hm, if_pos hm, ext_one hs, (dec_facts _).2.1]
    exact ⟨dec_digits _, by omega⟩
  · rw [if_neg h] at hs
    rw [decide_eq_false h] at hm
    rw [if_neg (by rw [hm]; exact Bool.false_ne_true), if_neg (by rw [hm]; exact Bool.false_ne_true), hs, (dec_facts _).2.1]
    exact ⟨dec_digits _, by omega⟩
end Go.Proofs.YtpdfahompajbjaaDoor


/- gint.Parse of a Gaussian integer's texts. -/
namespace Go.Proofs.YtpdfahompajbjaaDoor
open Go Go.RowKit Dig
set_option linter.unusedVariables false

def ofL (l : List UInt8) : ByteArray := ⟨l.toArray⟩
theorem ofL_list (l : List UInt8) : (ofL l).data.toList = l := by simp [ofL]
theorem ext_l {a b : ByteArray} (h : a.data.toList = b.data.toList) : a = b := by
  cases a; cases b
  simp only at h
  rw [Array.toList_inj.1 h]
theorem eq_ofL {a : ByteArray} {l : List UInt8} (h : a.data.toList = l) : a = ofL l := ext_l (by rw [ofL_list, h])
theorem ofL_size (l : List UInt8) : (ofL l).size = l.length := by rw [Lib.size_eq, ofL_list]
theorem ofL_app (a b : List UInt8) : ofL a ++ ofL b = ofL (a ++ b) := by
  refine ext_l ?_
  rw [ofL_list, ByteArray.data_append, Array.toList_append, ofL_list, ofL_list]
theorem tens_isD : ∀ c : UInt8, tens.contains c = isD c := by
  have key : ∀ n : Fin 256, tens.contains (UInt8.ofNat n.val) = isD (UInt8.ofNat n.val) := by decide +kernel
  intro c
  have := key ⟨c.toNat, c.toNat_lt⟩
  simpa using this
/-- What stands behind the digits. -/
theorem undig_app {d r : List UInt8} (hd : d.all isD = true) (hr : ∀ c, r.head? = some c → isD c = false) : undig (d ++ r) = r := by
  unfold undig Lib.trimLeftS
  rw [List.dropWhile_append_of_pos (fun c hc => by rw [tens_isD]; exact List.all_eq_true.1 hd c hc)]
  cases r with
  | nil => rfl
  | cons c r => rw [List.dropWhile_cons, tens_isD, hr c rfl]; simp
theorem unR_app {T : ByteArray} {d r : List UInt8} (hT : T.data.toList = d ++ r) (hd : d.all isD = true) (hr : ∀ c, r.head? = some c → isD c = false) : unR T = ofL r := by
  unfold unR
  rw [hT, undig_app hd hr]
  rfl
theorem unD_app {T : ByteArray} {d r : List UInt8} (hT : T.data.toList = d ++ r) (hd : d.all isD = true) (hr : ∀ c, r.head? = some c → isD c = false) : unD T = ofL d := by
  unfold unD
  rw [unR_app hT hd hr]
  refine ext_l ?_
  rw [Lib.extract_data, hT, ofL_list, ofL_size, Lib.size_eq, hT]
  simp
theorem ofL_toList (l : List UInt8) : (ofL l).toList = l := by rw [ByteArray.toList_eq, ofL_list]
theorem plusB_list {s : ByteArray} {l : List UInt8} (hs : s.data.toList = l) : plusB s = (l.head? == some 43) := by
  unfold plusB
  rw [Lib.extract_toList, Lib.size_eq, hs]
  cases l with
  | nil => rfl
  | cons c t => simp
theorem minusB_list {s : ByteArray} {l : List UInt8} (hs : s.data.toList = l) : minusB s = (l.head? == some 45) := by
  unfold minusB
  rw [Lib.extract_toList, Lib.size_eq, hs]
  cases l with
  | nil => rfl
  | cons c t => simp
theorem ext_zero {s : ByteArray} {c : UInt8} {l : List UInt8} (hs : s.data.toList = c :: l) : s.extract 0 1 = ofL [c] := by
  refine eq_ofL ?_
  rw [Lib.extract_data, hs]
  rfl
/-- What cutPart tells of a sign, digits and what stands behind. -/
theorem cutIs_of {s : ByteArray} {sg d r : List UInt8} (hs : s.size ≤ 65536) (h : s.data.toList = sg ++ (d ++ r)) (hsg : (sg = [] ∧ ∀ c, (d ++ r).head? = some c → c ≠ 43 ∧ c ≠ 45) ∨ sg = [43] ∨ sg = [45])
    (hd : d.all isD = true) (hr : ∀ c, r.head? = some c → isD c = false) : CutIs s (ofL sg) (ofL d) (ofL r) := by
  intro w
  rcases hsg with ⟨rfl, hh⟩ | rfl | rfl
  · rw [List.nil_append] at h
    have hp : plusB s = false := by
      rw [plusB_list h]
      cases hc : (d ++ r).head? with
      | none => rfl
      | some c => have := (hh c hc).1; simpa using this
    have hm : minusB s = false := by
      rw [minusB_list h]
      cases hc : (d ++ r).head? with
      | none => rfl
      | some c => have := (hh c hc).2; simpa using this
    have := cut_none s w hs hp hm
    rw [unR_app h hd hr, unD_app h hd hr] at this
    exact this
  · replace h : s.data.toList = 43 :: (d ++ r) := h
    have hp : plusB s = true := by rw [plusB_list h]; rfl
    have hT := ext_one h
    have := cut_plus s w hs hp
    rw [unR_app hT hd hr, unD_app hT hd hr, ext_zero h] at this
    exact this
  · replace h : s.data.toList = 45 :: (d ++ r) := h
    have hp : plusB s = false := by rw [plusB_list h]; rfl
    have hm : minusB s = true := by rw [minusB_list h]; rfl
    have hT := ext_one h
    have := cut_minus s w hs hp hm
    rw [unR_app hT hd hr, unD_app hT hd hr, ext_zero h] at this
    exact this
theorem isD_ne {c : UInt8} (h : isD c = true) : c ≠ 43 ∧ c ≠ 45 ∧ c ≠ 105 := by
  unfold isD at h
  have h2 := of_decide_eq_true h
  refine ⟨?_, ?_, ?_⟩ <;> (rintro rfl; revert h2; decide)
/-- The sign that a whole number's text begins with. -/
def zsg (z : Int) : List UInt8 := if z < 0 then [45] else []
theorem zlist_eq (z : Int) : zlist z = zsg z ++ Lib.decDigits z.natAbs := by unfold zlist zsg; split <;> rfl
theorem zsg_ok (z : Int) (r : List UInt8) : (zsg z = [] ∧ ∀ c, (Lib.decDigits z.natAbs ++ r).head? = some c → c ≠ 43 ∧ c ≠ 45) ∨ zsg z = [43] ∨ zsg z = [45] := by
  unfold zsg
  by_cases h : z < 0
  · rw [if_pos h]; exact .inr (.inr rfl)
  · rw [if_neg h]
    refine .inl ⟨rfl, fun c hc => ?_⟩
    obtain ⟨h1, _, h3, _⟩ := dec_facts z.natAbs
    cases hd : Lib.decDigits z.natAbs with
    | nil => rw [hd] at h3; exact absurd h3 (by decide)
    | cons b l =>
      rw [hd] at hc h1
      simp only [List.cons_append, List.head?_cons, Option.some.injEq] at hc
      subst hc
      rw [List.all_cons, Bool.and_eq_true] at h1
      exact ⟨(isD_ne h1.1).1, (isD_ne h1.1).2.1⟩
theorem zcut {s : ByteArray} {z : Int} {r : List UInt8} (hs : s.size ≤ 65536) (h : s.data.toList = zlist z ++ r) (hr : ∀ c, r.head? = some c → isD c = false) :
    CutIs s (ofL (zsg z)) (ofL (Lib.decDigits z.natAbs)) (ofL r) :=
  cutIs_of hs (by rw [h, zlist_eq, List.append_assoc]) (zsg_ok z r) (dec_facts _).1 hr
theorem zsg_plus (z : Int) : ((ofL (zsg z)).toList == [43]) = false := by rw [ofL_toList]; unfold zsg; split <;> rfl
theorem zpart (z : Int) : zok (ofL (zsg z) ++ ofL (Lib.decDigits z.natAbs)) = true ∧ zvl (ofL (zsg z) ++ ofL (Lib.decDigits z.natAbs)) = z :=
  zok_zlist (by rw [ofL_app, ofL_list, zlist_eq])
/-- A whole number's text, read back. -/
theorem parse_zts (z : Int) (w : World) (hs : (ofL (zlist z)).size ≤ 65536) :
    Calls Tryd.prog 27 #[.string (ofL (zlist z))] w fun e w' => ∃ r, e = .returned (.tuple #[r, .int .i64 0]) ∧ PC w' r z 0 ∧ Below w.heap.size w w' := by
  have hc := zcut (s := ofL (zlist z)) (z := z) (r := []) hs (by rw [ofL_list, List.append_nil]) (fun c hc => by simp at hc)
  have hp := parse_whole w hs hc (zsg_plus z) (by rw [ofL_toList]; rfl) (by rw [ofL_toList]; rfl) (zpart z).1 (by rw [ofL_app, ← zlist_eq]; exact hs)
  rw [(zpart z).2] at hp
  exact hp
/-- An imaginary part's text: a sign, an amount or none, i. -/
def zam (y : Int) (am : List UInt8) : Prop := (am = [] ∧ y.natAbs = 1) ∨ am = Lib.decDigits y.natAbs
theorem zam_digits {y : Int} {am : List UInt8} (h : zam y am) : am.all isD = true := by
  rcases h with ⟨rfl, _⟩ | rfl
  · rfl
  · exact (dec_facts _).1
theorem i_head : ∀ c, ([105] : List UInt8).head? = some c → isD c = false := by
  intro c hc
  simp only [List.head?_cons, Option.some.injEq] at hc
  subst hc; decide
theorem icut {s : ByteArray} {y : Int} {sg am : List UInt8} (hs : s.size ≤ 65536) (ha : zam y am) (h : s.data.toList = sg ++ (am ++ [105])) (hsg : sg = [] ∨ sg = [43] ∨ sg = [45]) :
    CutIs s (ofL sg) (ofL am) (ofL [105]) := by
  refine cutIs_of hs h ?_ (zam_digits ha) i_head
  rcases hsg with rfl | h | h
  · refine .inl ⟨rfl, fun c hc => ?_⟩
    have hd := zam_digits ha
    cases am with
    | nil => simp only [List.nil_append, List.head?_cons, Option.some.injEq] at hc; subst hc; exact ⟨by decide, by decide⟩
    | cons b l =>
      simp only [List.cons_append, List.head?_cons, Option.some.injEq] at hc
      subst hc
      rw [List.all_cons, Bool.and_eq_true] at hd
      exact ⟨(isD_ne hd.1).1, (isD_ne hd.1).2.1⟩
  · exact .inr (.inl h)
  · exact .inr (.inr h)
theorem dec_ok (n : Nat) : zok (ofL (Lib.decDigits n)) = true ∧ zvl (ofL (Lib.decDigits n)) = (n : Int) := by
  have := zok_zlist (s := ofL (Lib.decDigits n)) (z := (n : Int)) (by rw [ofL_list]; unfold zlist; rw [if_neg (by omega), Int.natAbs_natCast])
  exact this
theorem dec_ne (n : Nat) : ((ofL (Lib.decDigits n)).toList == []) = false := by
  rw [ofL_toList]
  have h := (dec_facts n).2.2.1
  cases hd : Lib.decDigits n with
  | nil => rw [hd] at h; exact absurd h (by decide)
  | cons c l => rfl
/-- The text of a number without a real part, read back: sg is minus just if it is below 0. -/
theorem parse_i {y : Int} {sg am : List UInt8} (w : World) (ha : zam y am) (hsg : sg = if y < 0 then [45] else []) (hs : (ofL (sg ++ (am ++ [105]))).size ≤ 65536) :
    Calls Tryd.prog 27 #[.string (ofL (sg ++ (am ++ [105])))] w fun e w' => ∃ r, e = .returned (.tuple #[r, .int .i64 0]) ∧ PC w' r 0 y ∧ Below w.heap.size w w' := by
  have hc := icut (s := ofL (sg ++ (am ++ [105]))) hs ha (ofL_list _) (by rw [hsg]; split; exact .inr (.inr rfl); exact .inl rfl)
  have hl : am.length ≤ 65536 := by rw [ofL_size] at hs; simp only [List.length_append] at hs; omega
  by_cases hy : y < 0
  · rw [if_pos hy] at hsg
    have hA : ((ofL sg).toList == [43]) = false := by rw [ofL_toList, hsg]; rfl
    have hM : ((ofL sg).toList == [45]) = true := by rw [ofL_toList, hsg]; rfl
    rcases ha with ⟨h0, h1⟩ | h0
    · have hp := parse_im_em w hs hc hA (by rw [ofL_toList]; rfl) (by rw [ofL_toList, h0]; rfl) hM
      rw [show (-1 : Int) = y by omega] at hp; exact hp
    · have hp := parse_im_dm w hs hc hA (by rw [ofL_toList]; rfl) (by rw [h0]; exact dec_ne _) hM (by rw [h0]; exact (dec_ok _).1) (by rw [ofL_size]; exact hl)
      rw [h0, (dec_ok _).2, show -((y.natAbs : Nat) : Int) = y by omega] at hp
      rw [h0]; exact hp
  · rw [if_neg hy] at hsg
    have hA : ((ofL sg).toList == [43]) = false := by rw [ofL_toList, hsg]; rfl
    have hM : ((ofL sg).toList == [45]) = false := by rw [ofL_toList, hsg]; rfl
    rcases ha with ⟨h0, h1⟩ | h0
    · have hp := parse_im_ep w hs hc hA (by rw [ofL_toList]; rfl) (by rw [ofL_toList, h0]; rfl) hM
      rw [show (1 : Int) = y by omega] at hp; exact hp
    · have hp := parse_im_dp w hs hc hA (by rw [ofL_toList]; rfl) (by rw [h0]; exact dec_ne _) hM (by rw [h0]; exact (dec_ok _).1) (by rw [ofL_size]; exact hl)
      rw [h0, (dec_ok _).2, show ((y.natAbs : Nat) : Int) = y by omega] at hp
      rw [h0]; exact hp
/-- The text of both parts, read back. -/
theorem parse_xy {x y : Int} {sg am : List UInt8} (w : World) (ha : zam y am) (hsg : sg = if y < 0 then [45] else [43]) (hs : (ofL (zlist x ++ (sg ++ (am ++ [105])))).size ≤ 65536) :
    Calls Tryd.prog 27 #[.string (ofL (zlist x ++ (sg ++ (am ++ [105]))))] w fun e w' => ∃ r, e = .returned (.tuple #[r, .int .i64 0]) ∧ PC w' r x y ∧ Below w.heap.size w w' := by
  have hz := hs
  rw [ofL_size] at hz
  simp only [List.length_append] at hz
  have hc := zcut (s := ofL (zlist x ++ (sg ++ (am ++ [105])))) (z := x) (r := sg ++ (am ++ [105])) hs (ofL_list _) (by
    intro c hc
    rw [hsg] at hc
    split at hc <;> (simp only [List.cons_append, List.head?_cons, Option.some.injEq] at hc; subst hc; decide))
  have hs2 : (ofL (sg ++ (am ++ [105]))).size ≤ 65536 := by rw [ofL_size]; simp only [List.length_append]; omega
  have hc2 := icut (s := ofL (sg ++ (am ++ [105]))) hs2 ha (ofL_list _) (by rw [hsg]; split; exact .inr (.inr rfl); exact .inr (.inl rfl))
  have hR : ((ofL (sg ++ (am ++ [105]))).toList == [105]) = false := by rw [ofL_toList, hsg]; split <;> rfl
  have hR0 : ((ofL (sg ++ (am ++ [105]))).toList == []) = false := by rw [ofL_toList, hsg]; split <;> rfl
  have hAD : (ofL (zsg x) ++ ofL (Lib.decDigits x.natAbs)).size ≤ 65536 := by rw [ofL_app, ← zlist_eq, ofL_size]; omega
  have hl : am.length ≤ 65536 := by omega
  have h105 : ((ofL [105]).toList == [105]) = true := by rw [ofL_toList]; rfl
  by_cases hy : y < 0
  · rw [if_pos hy] at hsg
    have hM : ((ofL sg).toList == [45]) = true := by rw [ofL_toList, hsg]; rfl
    rcases ha with ⟨h0, h1⟩ | h0
    · have hp := parse_both_em w hs hc (zsg_plus x) hR hR0 (zpart x).1 hAD hc2 h105 (by rw [ofL_toList, h0]; rfl) hM
      rw [(zpart x).2, show (-1 : Int) = y by omega] at hp; exact hp
    · have hp := parse_both_dm w hs hc (zsg_plus x) hR hR0 (zpart x).1 hAD hc2 h105 (by rw [h0]; exact dec_ne _) hM (by rw [h0]; exact (dec_ok _).1) (by rw [ofL_size]; exact hl)
      rw [(zpart x).2, h0, (dec_ok _).2, show -((y.natAbs : Nat) : Int) = y by omega] at hp
      rw [h0]; exact hp
  · rw [if_neg hy] at hsg
    have hM : ((ofL sg).toList == [45]) = false := by rw [ofL_toList, hsg]; rfl
    rcases ha with ⟨h0, h1⟩ | h0
    · have hp := parse_both_ep w hs hc (zsg_plus x) hR hR0 (zpart x).1 hAD hc2 h105 (by rw [ofL_toList, h0]; rfl) hM
      rw [(zpart x).2, show (1 : Int) = y by omega] at hp; exact hp
    · have hp := parse_both_dp w hs hc (zsg_plus x) hR hR0 (zpart x).1 hAD hc2 h105 (by rw [h0]; exact dec_ne _) hM (by rw [h0]; exact (dec_ok _).1) (by rw [ofL_size]; exact hl)
      rw [(zpart x).2, h0, (dec_ok _).2, show ((y.natAbs : Nat) : Int) = y by omega] at hp
      rw [h0]; exact hp
end Go.Proofs.YtpdfahompajbjaaDoor


/- A Gaussian integer's text, read back. -/
namespace Go.Proofs.YtpdfahompajbjaaDoor
open Go Go.RowKit Dig
set_option linter.unusedVariables false

theorem zts_ofL (z : Int) : zts z = ofL (zlist z) := rfl
theorem one_bit {n : Nat} : 1 < bitsN n ↔ 1 < n := by
  have h1 := bitsN_lt n
  constructor
  · intro h
    have h2 := bitsN_le (n := n) (by intro h0; rw [h0] at h; simp [bitsN] at h)
    have h3 : 2 ^ 1 ≤ 2 ^ (bitsN n - 1) := Nat.pow_le_pow_right (by omega) (by omega)
    omega
  · intro h
    rcases Nat.lt_or_ge 1 (bitsN n) with h2 | h2
    · exact h2
    · have h3 : 2 ^ bitsN n ≤ 2 ^ 1 := Nat.pow_le_pow_right (by omega) h2
      omega
theorem dec_len_pos (n : Nat) : 0 < (Lib.decDigits n).length := (dec_facts n).2.2.1
theorem zlist_len (z : Int) : (zlist z).length = (if z < 0 then 1 else 0) + (Lib.decDigits z.natAbs).length := by
  unfold zlist
  split
  · simp only [List.length_cons]; omega
  · omega
theorem zlist_zero : zlist 0 = [48] := by unfold zlist; rw [if_neg (by omega)]; exact dec1 0 (by omega)
/-- The amount that stands in a text. -/
def amL (y : Int) : List UInt8 := if 1 < bitsN y.natAbs then Lib.decDigits y.natAbs else []
theorem amL_ok {y : Int} (h : y ≠ 0) : zam y (amL y) := by
  unfold amL
  by_cases hb : 1 < bitsN y.natAbs
  · rw [if_pos hb]; exact .inr rfl
  · rw [if_neg hb]
    have : ¬ 1 < y.natAbs := fun hc => hb (one_bit.2 hc)
    exact .inl ⟨rfl, by omega⟩
theorem gAm_ofL (y : Int) : gAm y = ofL (amL y) := by
  unfold gAm amL
  split
  · rw [zts_ofL]; unfold zlist; rw [if_neg (by omega), Int.natAbs_natCast]
  · rfl
theorem gSg_ofL (x y : Int) : gSg x y = ofL (if y < 0 then [45] else if x = 0 then [] else [43]) := by
  unfold gSg
  split
  · rfl
  · split <;> rfl
theorem gts_whole {x y : Int} (h : y = 0) : gts x y = ofL (zlist x) := by unfold gts; rw [if_pos h, zts_ofL]
theorem gts_i {x y : Int} (h : y ≠ 0) (hx : x = 0) : gts x y = ofL ((if y < 0 then [45] else []) ++ (amL y ++ [105])) := by
  unfold gts gRe
  rw [if_neg h, if_pos hx, gSg_ofL, gAm_ofL, if_pos hx]
  show ofL [] ++ _ ++ _ ++ ofL [105] = _
  rw [ofL_app, ofL_app, ofL_app]
  congr 1
  simp
theorem gts_xy {x y : Int} (h : y ≠ 0) (hx : x ≠ 0) : gts x y = ofL (zlist x ++ ((if y < 0 then [45] else [43]) ++ (amL y ++ [105]))) := by
  unfold gts gRe
  rw [if_neg h, if_neg hx, gSg_ofL, gAm_ofL, if_neg hx, zts_ofL]
  show _ ++ _ ++ _ ++ ofL [105] = _
  rw [ofL_app, ofL_app, ofL_app]
  congr 1
  simp
theorem parse_gts {x y : Int} (w : World) (hs : (gts x y).size ≤ 65536) :
    Calls Tryd.prog 27 #[.string (gts x y)] w fun e w' => ∃ r, e = .returned (.tuple #[r, .int .i64 0]) ∧ PC w' r x y ∧ Below w.heap.size w w' := by
  by_cases hy : y = 0
  · rw [gts_whole hy] at hs ⊢
    rw [hy]
    exact parse_zts x w hs
  · by_cases hx : x = 0
    · rw [gts_i hy hx] at hs ⊢
      rw [hx]
      exact parse_i w (amL_ok hy) rfl hs
    · rw [gts_xy hy hx] at hs ⊢
      exact parse_xy w (amL_ok hy) rfl hs
/-- The text of the parts. -/
theorem parts_size (x y : Int) : (zlist x).length + (zlist y).length + 2 ≤ (gts x y).size + 5 := by
  have h1 := zlist_len x
  have h2 := zlist_len y
  by_cases hy : y = 0
  · rw [gts_whole hy, ofL_size, hy, zlist_zero]
    simp only [List.length_cons, List.length_nil]
    omega
  · have hd : (Lib.decDigits y.natAbs).length ≤ (amL y).length + 1 := by
      unfold amL
      split
      · omega
      · rename_i hb
        have : ¬ 1 < y.natAbs := fun hc => hb (one_bit.2 hc)
        rw [dec1 y.natAbs (by omega)]
        simp
    have h3 : (if y < 0 then 1 else 0) ≤ 1 := by split <;> omega
    by_cases hx : x = 0
    · rw [gts_i hy hx, ofL_size, hx, zlist_zero]
      simp only [List.length_append, List.length_cons, List.length_nil]
      omega
    · rw [gts_xy hy hx, ofL_size]
      simp only [List.length_append, List.length_cons, List.length_nil]
      omega
theorem parse_parts {x y : Int} {sg : List UInt8} (w : World) (hsg : sg = if y < 0 then [45] else [43]) (hs : (zlist x).length + (Lib.decDigits y.natAbs).length + 2 ≤ 65536) :
    Calls Tryd.prog 27 #[.string (ofL (zlist x ++ (sg ++ (Lib.decDigits y.natAbs ++ [105]))))] w fun e w' => ∃ r, e = .returned (.tuple #[r, .int .i64 0]) ∧ PC w' r x y ∧ Below w.heap.size w w' := by
  refine parse_xy w (.inr rfl) hsg ?_
  rw [ofL_size]
  have : sg.length = 1 := by rw [hsg]; split <;> rfl
  simp only [List.length_append, List.length_cons, List.length_nil]
  omega
end Go.Proofs.YtpdfahompajbjaaDoor

