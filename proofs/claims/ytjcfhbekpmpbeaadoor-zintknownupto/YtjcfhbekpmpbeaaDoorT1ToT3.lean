/- Texts with a sign: CutPrefix, the references Is and Parse. -/
import Derived.Test.YtjcfhbekpmpbeaaDoorZ13
import Derived.Test.YtjcfhbekpmpbeaaDoorR11
import Derived.Test.YtjcfhbekpmpbeaaDoorR12

namespace Go.Proofs.YtjcfhbekpmpbeaaDoor
open Go.RowKit Dig

/-- Does a text begin with a -? -/
def minusB (s : ByteArray) : Bool := decide (1 ≤ s.size) && ((s.extract 0 1).toList == [45])

set_option maxHeartbeats 1000000 in
set_option maxRecDepth 20000 in
theorem hasPrefix_any (s : ByteArray) (w : World) :
    Calls Tryd.prog 83 #[.string s, .string ⟨#[45]⟩] w fun e w' => e = .returned (.bool (minusB s)) ∧ w' = w := by
  by_cases h : 1 ≤ s.size
  · have hm : minusB s = ((s.extract 0 1).toList == [45]) := by unfold minusB; rw [decide_eq_true h, Bool.true_and]
    rw [hm]
    clear hm
    go_enter Tryd.func83, Tryd.ntmps83
    go_wp2
    go_ret
    exact ⟨rfl, rfl⟩
  · have hm : minusB s = false := by unfold minusB; rw [decide_eq_false h, Bool.false_and]
    rw [hm]
    clear hm
    go_enter Tryd.func83, Tryd.ntmps83
    go_wp2
    go_ret
    exact ⟨rfl, rfl⟩

set_option maxHeartbeats 1000000 in
set_option maxRecDepth 20000 in
theorem cutPrefix0 (s : ByteArray) (w : World) (hm : minusB s = false) :
    Calls Tryd.prog 74 #[.string s, .string ⟨#[45]⟩] w fun e w' => e = .returned (.tuple #[.string s, .bool false]) ∧ w' = w := by
  go_enter Tryd.func74, Tryd.ntmps74
  go_wp2_with fail
  refine (hasPrefix_any s w).mono ?_
  rintro e w' ⟨rfl, rfl⟩
  rw [hm]
  go_wp2
  go_ret2
  exact ⟨rfl, rfl⟩
set_option maxHeartbeats 1000000 in
set_option maxRecDepth 20000 in
theorem cutPrefix1 (s : ByteArray) (w : World) (hs : s.size ≤ 1048576) (hm : minusB s = true) :
    Calls Tryd.prog 74 #[.string s, .string ⟨#[45]⟩] w fun e w' => e = .returned (.tuple #[.string (s.extract 1 s.size), .bool true]) ∧ w' = w := by
  have h1 : 1 ≤ s.size := by unfold minusB at hm; rw [Bool.and_eq_true] at hm; exact of_decide_eq_true hm.1
  go_enter Tryd.func74, Tryd.ntmps74
  go_wp2_with fail
  refine (hasPrefix_any s w).mono ?_
  rintro e w' ⟨rfl, rfl⟩
  rw [hm]
  clear hm
  go_wp2
  go_ret2
  exact ⟨rfl, rfl⟩

set_option maxHeartbeats 1000000 in
set_option maxRecDepth 20000 in
theorem scut0 (s : ByteArray) (w : World) (hm : minusB s = false) :
    Calls Tryd.prog 68 #[.string s, .string ⟨#[45]⟩] w fun e w' => e = .returned (.tuple #[.string s, .bool false]) ∧ w' = w := by
  go_enter Tryd.func68, Tryd.ntmps68
  go_wp2_with fail
  refine (cutPrefix0 s w hm).mono ?_
  rintro e w' ⟨rfl, rfl⟩
  go_wp2
  go_ret2
  exact ⟨rfl, rfl⟩
set_option maxHeartbeats 1000000 in
set_option maxRecDepth 20000 in
theorem scut1 (s : ByteArray) (w : World) (hs : s.size ≤ 1048576) (hm : minusB s = true) :
    Calls Tryd.prog 68 #[.string s, .string ⟨#[45]⟩] w fun e w' => e = .returned (.tuple #[.string (s.extract 1 s.size), .bool true]) ∧ w' = w := by
  go_enter Tryd.func68, Tryd.ntmps68
  go_wp2_with fail
  refine (cutPrefix1 s w hs hm).mono ?_
  rintro e w' ⟨rfl, rfl⟩
  go_wp2
  go_ret2
  exact ⟨rfl, rfl⟩

theorem minus_at (s : ByteArray) (h : 0 < s.size) : minusB s = (((s[0]'h).toNat : Int) == 45) := by
  unfold minusB
  rw [decide_eq_true (show 1 ≤ s.size from h), Bool.true_and, Lib.extract_toList]
  obtain ⟨⟨l⟩⟩ := s
  cases l with
  | nil => exact absurd h (Nat.lt_irrefl 0)
  | cons c l =>
    show ([c] == [45]) = ((c.toNat : Int) == 45)
    rw [Bool.eq_iff_iff]
    simp only [beq_iff_eq, List.cons.injEq, and_true]
    constructor
    · rintro rfl; rfl
    · intro h2
      have h3 : c.toNat = (45 : UInt8).toNat := by have : (45 : UInt8).toNat = 45 := rfl; omega
      exact UInt8.toNat_inj.1 h3
theorem minus_size {s : ByteArray} (h : minusB s = true) : 0 < s.size := by
  unfold minusB at h; rw [Bool.and_eq_true] at h; exact of_decide_eq_true h.1
theorem rest_size {s : ByteArray} : (s.extract 1 s.size).size = s.size - 1 := by
  rw [Lib.size_eq, Lib.extract_data, List.length_take, List.length_drop, ← Lib.size_eq]; omega

end Go.Proofs.YtjcfhbekpmpbeaaDoor

/- zint.Parse, Text; the reference's Text. -/
namespace Go.Proofs.YtjcfhbekpmpbeaaDoor
open Go.RowKit Dig

set_option maxHeartbeats 400000 in
set_option maxRecDepth 20000 in
/-- signed, of digits that are read. -/
theorem signed_rd {w : World} {s : Value} (neg : Bool) (n : Nat) (z : Int) (h : Rd w s (dig n)) (hz : (if neg then -(n : Int) else (n : Int)) = z) :
    Calls Tryd.prog 46 #[.bool neg, s] w fun e w' => ∃ v, e = .returned v ∧ ZC w' v z ∧ Below w.heap.size w w' := by
  subst hz
  have HSG := hide (sign_of neg n)
  have h' := h
  obtain ⟨oa, cap, rfl, hcap, _⟩ := h
  have H' := hide h'
  clear h'
  have hbl : ∀ o, Below w.heap.size w (w.alloc o) := fun o => (Below.refl _ _).alloc (Nat.le_refl _) o
  have e1 : ((n : Int)).natAbs = n := by simp
  have e2 : (-(n : Int)).natAbs = n := by simp
  have E := hide (And.intro e1 e2)
  clear e1 e2
  cases neg
  · go_enter Tryd.func46, Tryd.ntmps46
    go_wp2
    go_returns
    refine ⟨_, rfl, ⟨_, ?_, by rw [E.out.1]; exact H'.out.below (hbl _) (Nat.le_refl _)⟩, hbl _⟩
    rw [decide_eq_false (by omega : ¬ (n : Int) < 0)]
  · go_enter Tryd.func46, Tryd.ntmps46
    go_wp2
    go_returns
    refine ⟨_, rfl, ⟨_, ?_, by rw [E.out.2]; exact H'.out.below (hbl _) (Nat.le_refl _)⟩, hbl _⟩
    have h3 := HSG.out
    simp only [Bool.true_and, if_true] at h3
    rw [h3]

set_option maxHeartbeats 1000000 in
set_option maxRecDepth 20000 in
/-- zint.Parse of too long a text. -/
theorem zparse_long (s : ByteArray) (w : World) (hs : 65536 < s.size) (hs2 : s.size ≤ 1048576) :
    Calls Tryd.prog 52 #[.string s] w fun e w' => e = .returned (.tuple #[.agg #[.bool false, .slice none 0 0], .int .i64 12]) ∧ Below w.heap.size w w' := by
  go_enter Tryd.func52, Tryd.ntmps52
  have hb := Below.refl w.heap.size w
  have hz := Bk.new w false (.slice none 0 0)
  replace hb := hb.alloc hb.size (.cells #[.bool false, (.slice none 0 0)] 36)
  have f_hz := hz.facts
  go_wp2
  refine bodyPost_ret (v := .tuple #[.agg #[.bool false, .slice none 0 0], .int .i64 12]) (by simp [results, Tryd.results52, go_sem]) rfl ?_
  exact ⟨rfl, hb⟩

set_option maxHeartbeats 1000000 in
set_option maxRecDepth 20000 in
/-- zint.Parse of what is no number. -/
theorem zparse_bad (s : ByteArray) (w : World) (hs : s.size ≤ 65536) (d : ByteArray) (m : Bool)
    (hcut : ∀ w, Calls Tryd.prog 68 #[.string s, .string ⟨#[45]⟩] w fun e w' => e = .returned (.tuple #[.string d, .bool m]) ∧ w' = w) (hds : d.size ≤ 65536) (hd : digitsB d.data.toList = false) :
    Calls Tryd.prog 52 #[.string s] w fun e w' => e = .returned (.tuple #[.agg #[.bool false, .slice none 0 0], .int .i64 7]) ∧ Below w.heap.size w w' := by
  have e1 : parseI d = 7 := by unfold parseI; rw [if_neg (by omega), if_neg (by rw [hd]; exact Bool.false_ne_true)]
  have HP := hide (fun w => parse_any d w (by omega))
  rw [e1] at HP
  have HC := hide hcut
  have e7 : ((7 : Int) == 0) = false := rfl
  clear e1 hcut hd
  go_enter Tryd.func52, Tryd.ntmps52
  have hb := Below.refl w.heap.size w
  have hz := Bk.new w false (.slice none 0 0)
  replace hb := hb.alloc hb.size (.cells #[.bool false, (.slice none 0 0)] 36)
  go_wp2_with fail
  refine (HC.out _).mono ?_
  rintro e w' ⟨rfl, rfl⟩
  go_wp2_with fail
  refine (HP.out _).mono ?_
  rintro e w_1 ⟨v1, rfl, -, hb_1⟩
  replace hz := hz.below hb_1 (Nat.le_refl _)
  replace hb := hb.trans (hb_1.mono hb.size)
  clear hb_1
  have f_hz := hz.facts
  have ho := Bk.only w_1 (w.heap.size) false (.slice none 0 0)
  have hbx_ := hz.bx
  replace hz := hz.store false (.slice none 0 0)
  replace hb := (hb.setCell (p := ⟨w.heap.size, 0, none⟩) (show w.heap.size ≤ w.heap.size by first | assumption | (simp; done) | omega) (.bool false)).setCell (p := ⟨w.heap.size, 1, none⟩) (show w.heap.size ≤ w.heap.size by first | assumption | (simp; done) | omega) (.slice none 0 0)
  clear ho hbx_
  obtain ⟨w_2, hw_2⟩ : ∃ v, ((w_1.setCell ⟨w.heap.size, 0, none⟩ (.bool false)).setCell ⟨w.heap.size, 1, none⟩ (.slice none 0 0)) = v := ⟨_, rfl⟩
  rw [hw_2] at hz hb
  have f1 := hz.facts
  go_wp2
  refine bodyPost_ret (v := .tuple #[.agg #[.bool false, .slice none 0 0], .int .i64 7]) (by simp [results, Tryd.results52, go_sem, f1.1, f1.2.1]) rfl ?_
  exact ⟨rfl, hb⟩

set_option maxHeartbeats 1000000 in
set_option maxRecDepth 20000 in
/-- zint.Parse of a number. -/
theorem zparse_good (s : ByteArray) (w : World) (hs : s.size ≤ 65536) (d : ByteArray) (m : Bool) (z : Int)
    (hcut : ∀ w, Calls Tryd.prog 68 #[.string s, .string ⟨#[45]⟩] w fun e w' => e = .returned (.tuple #[.string d, .bool m]) ∧ w' = w) (hds : d.size ≤ 65536) (hd : digitsB d.data.toList = true)
    (hz' : (if m then -((pval d.data.toList : Nat) : Int) else ((pval d.data.toList : Nat) : Int)) = z) :
    Calls Tryd.prog 52 #[.string s] w fun e w' => ∃ v, e = .returned (.tuple #[v, .int .i64 0]) ∧ ZC w' v z ∧ Below w.heap.size w w' := by
  have e1 : parseI d = 0 := by unfold parseI; rw [if_neg (by omega), if_pos hd]
  have e2 : parseD d = dig (pval d.data.toList) := by unfold parseD; rw [if_neg (by omega), if_pos hd]
  have HP := hide (fun w => parse_any d w (by omega))
  rw [e1, e2] at HP
  have HC := hide hcut
  have HZ := hide hz'
  have e0 : ((0 : Int) == 0) = true := rfl
  clear e1 e2 hcut hd hz'
  go_enter Tryd.func52, Tryd.ntmps52
  have hb := Below.refl w.heap.size w
  have hz := Bk.new w false (.slice none 0 0)
  replace hb := hb.alloc hb.size (.cells #[.bool false, (.slice none 0 0)] 36)
  go_wp2_with fail
  refine (HC.out _).mono ?_
  rintro e w' ⟨rfl, rfl⟩
  go_wp2_with fail
  refine (HP.out _).mono ?_
  rintro e w_1 ⟨v1, rfl, g1, hb_1⟩
  replace hz := hz.below hb_1 (Nat.le_refl _)
  replace hb := hb.trans (hb_1.mono hb.size)
  clear hb_1
  go_wp2_with fail
  refine (signed_rd m _ z g1 HZ.out).mono ?_
  rintro e w_2 ⟨v2, rfl, g2, hb_2⟩
  replace hz := hz.below hb_2 (Nat.le_refl _)
  replace g1 := g1.below hb_2 (Nat.le_refl _)
  replace hb := hb.trans (hb_2.mono hb.size)
  clear hb_2
  clear g1
  obtain ⟨sb_hz, o_hz, n_hz, c_hz, rfl⟩ := g2.open2
  have f_hz := hz.facts
  have ho := Bk.only w_2 (w.heap.size) sb_hz (.slice o_hz n_hz c_hz)
  have hbx_ := hz.bx
  replace g2 := g2.frame hbx_ ho
  replace hz := hz.store sb_hz (.slice o_hz n_hz c_hz)
  replace hb := (hb.setCell (p := ⟨w.heap.size, 0, none⟩) (show w.heap.size ≤ w.heap.size by first | assumption | (simp; done) | omega) (.bool sb_hz)).setCell (p := ⟨w.heap.size, 1, none⟩) (show w.heap.size ≤ w.heap.size by first | assumption | (simp; done) | omega) (.slice o_hz n_hz c_hz)
  clear ho hbx_
  obtain ⟨w_3, hw_3⟩ : ∃ v, ((w_2.setCell ⟨w.heap.size, 0, none⟩ (.bool sb_hz)).setCell ⟨w.heap.size, 1, none⟩ (.slice o_hz n_hz c_hz)) = v := ⟨_, rfl⟩
  rw [hw_3] at hz g2 hb
  have f1 := hz.facts
  go_wp2
  refine bodyPost_ret (v := .tuple #[.agg #[.bool sb_hz, .slice o_hz n_hz c_hz], .int .i64 0]) (by simp [results, Tryd.results52, go_sem, f1.1, f1.2.1]) rfl ?_
  exact ⟨_, rfl, g2, hb⟩

set_option maxHeartbeats 1000000 in
set_option maxRecDepth 20000 in
/-- zint.Text of a number not below 0. -/
theorem ztext_pos {w : World} {v : Value} {z : Int} {l : Nat} (h : ZN w v z l) (hl : l ≤ 1000000000) (hz0 : 0 ≤ z) (htab : Lib.TabIs Tryd.prog w p10 .u64 Lib.pow10Tab) :
    Calls Tryd.prog 20 #[v] w fun e w' => e = .returned (.string ⟨(Lib.decDigits z.natAbs).toArray⟩) ∧ Below w.heap.size w w' := by
  have htabs := Lib.tabBelow_of_tabIs htab
  have hzn := h
  obtain ⟨neg, oa, cap, xs, rfl, hcap, hr, hz, hxl⟩ := h.open_
  have hv : val xs = z.natAbs := by rw [← hz, zv_abs]
  obtain ⟨G, hG⟩ : ∃ G, z.sign = G := ⟨_, rfl⟩
  have hG0 : 0 ≤ G := by rw [← hG]; rcases Int.lt_or_eq_of_le hz0 with h1 | h1; rw [Int.sign_eq_one_of_pos h1]; omega; rw [← h1]; decide
  have hG1 : (G < 0) = False := eq_false (by omega)
  have HV := hide (And.intro hv hG)
  obtain ⟨S, hS⟩ : ∃ S, Lib.decDigits z.natAbs = S := ⟨_, rfl⟩
  have HS := hide hS
  rw [hS]
  clear hz hv h hz0 hS hG
  go_enter Tryd.func20, Tryd.ntmps20
  have hb := Below.refl w.heap.size w
  have hp := Bk.new w neg (.slice oa xs.length cap)
  replace hr := hr.alloc (.cells #[.bool neg, (.slice oa xs.length cap)] 36)
  replace hzn := hzn.alloc (.cells #[.bool neg, (.slice oa xs.length cap)] 36)
  replace hb := hb.alloc hb.size (.cells #[.bool neg, (.slice oa xs.length cap)] 36)
  have f_hp := hp.facts
  go_wp2_with fail
  refine (text_rd hr (by omega) (htabs _ hb)).mono ?_
  rintro e w_1 ⟨rfl, hb_1⟩
  replace hr := hr.below hb_1 (Nat.le_refl _)
  replace hzn := hzn.below hb_1 (Nat.le_refl _)
  replace hp := hp.below hb_1 (Nat.le_refl _)
  replace hb := hb.trans (hb_1.mono hb.size)
  clear hb_1
  rw [HV.out.1, HS.out]
  clear f_hp
  have f_hp := hp.facts
  go_wp2_with fail
  refine (zsign_any hzn hl).mono ?_
  rintro e w_2 ⟨rfl, hb_2⟩
  replace hr := hr.below hb_2 (Nat.le_refl _)
  replace hzn := hzn.below hb_2 (Nat.le_refl _)
  replace hp := hp.below hb_2 (Nat.le_refl _)
  replace hb := hb.trans (hb_2.mono hb.size)
  clear hb_2
  rw [HV.out.2]
  go_wp2
  go_ret
  exact ⟨rfl, hb⟩

end Go.Proofs.YtjcfhbekpmpbeaaDoor

/- Texts with a sign, in one piece: what is a number, and which. -/
namespace Go.Proofs.YtjcfhbekpmpbeaaDoor
open Go Go.RowKit Dig
set_option linter.unusedVariables false

/-- Is a text a whole number's, and which? -/
def zok (s : ByteArray) : Bool := if minusB s = true then digitsB (s.extract 1 s.size).data.toList else digitsB s.data.toList
def zvl (s : ByteArray) : Int := if minusB s = true then -((pval (s.extract 1 s.size).data.toList : Nat) : Int) else ((pval s.data.toList : Nat) : Int)

theorem digits_all' {l : List UInt8} (h : digitsB l = true) : l.all isD = true := by unfold digitsB at h; rw [Bool.and_eq_true] at h; exact h.1
theorem digits_pos {s : ByteArray} (h : digitsB s.data.toList = true) : 0 < s.size := by
  rcases Nat.eq_zero_or_pos s.size with h0 | h0
  · rw [Lib.size_eq, List.length_eq_zero_iff] at h0
    rw [h0] at h
    exact absurd h (by decide)
  · exact h0
theorem zvl_len {s : ByteArray} (hs : s.size ≤ 65536) (h : zok s = true) : (dig (zvl s).natAbs).length ≤ 8192 := by
  unfold zok at h; unfold zvl
  have hr := rest_size (s := s)
  split
  · rename_i hm
    rw [if_pos hm] at h
    rw [Int.natAbs_neg, Int.natAbs_natCast]
    exact pval_dig_length (digits_all' h) (by rw [← Lib.size_eq]; omega)
  · rename_i hm
    rw [if_neg hm] at h
    rw [Int.natAbs_natCast]
    exact pval_dig_length (digits_all' h) (by rw [← Lib.size_eq]; omega)
theorem zparse_no (s : ByteArray) (w : World) (hs : s.size ≤ 65536) (h : zok s = false) :
    Calls Tryd.prog 52 #[.string s] w fun e w' => e = .returned (.tuple #[.agg #[.bool false, .slice none 0 0], .int .i64 7]) ∧ Below w.heap.size w w' := by
  unfold zok at h
  have hr := rest_size (s := s)
  cases hm : minusB s with
  | true => rw [if_pos hm] at h; exact zparse_bad s w hs _ true (fun w => scut1 s w (by omega) hm) (by omega) h
  | false => rw [if_neg (by rw [hm]; exact Bool.false_ne_true)] at h; exact zparse_bad s w hs _ false (fun w => scut0 s w hm) hs h
theorem zparse_ok (s : ByteArray) (w : World) (hs : s.size ≤ 65536) (h : zok s = true) :
    Calls Tryd.prog 52 #[.string s] w fun e w' => ∃ v, e = .returned (.tuple #[v, .int .i64 0]) ∧ ZC w' v (zvl s) ∧ Below w.heap.size w w' := by
  unfold zok at h
  unfold zvl
  have hr := rest_size (s := s)
  cases hm : minusB s with
  | true =>
    rw [if_pos hm] at h
    exact zparse_good s w hs _ true _ (fun w => scut1 s w (by omega) hm) (by omega) h rfl
  | false =>
    rw [if_neg (by rw [hm]; exact Bool.false_ne_true)] at h
    exact zparse_good s w hs _ false _ (fun w => scut0 s w hm) hs h rfl
end Go.Proofs.YtjcfhbekpmpbeaaDoor
