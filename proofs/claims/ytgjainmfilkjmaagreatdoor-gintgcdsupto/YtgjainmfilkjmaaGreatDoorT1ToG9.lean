/- Texts with a sign: CutPrefix, the references Is and Parse. -/
import Derived.Test.YtgjainmfilkjmaaGreatDoorG3ToR10
import Derived.Test.YtgjainmfilkjmaaGreatDoorR11
import Derived.Test.YtgjainmfilkjmaaGreatDoorR12

namespace Go.Proofs.YtgjainmfilkjmaaGreatDoor
open Go.RowKit Dig

/-- Does a text begin with a -? -/
def minusB (s : ByteArray) : Bool := decide (1 ≤ s.size) && ((s.extract 0 1).toList == [45])

set_option maxHeartbeats 1000000 in
set_option maxRecDepth 20000 in
theorem hasPrefix_any (s : ByteArray) (w : World) :
    Calls Tryz.prog 122 #[.string s, .string ⟨#[45]⟩] w fun e w' => e = .returned (.bool (minusB s)) ∧ w' = w := by
  by_cases h : 1 ≤ s.size
  · have hm : minusB s = ((s.extract 0 1).toList == [45]) := by unfold minusB; rw [decide_eq_true h, Bool.true_and]
    rw [hm]
    clear hm
    go_enter Tryz.func122, Tryz.ntmps122
    go_wp2
    go_ret
    exact ⟨rfl, rfl⟩
  · have hm : minusB s = false := by unfold minusB; rw [decide_eq_false h, Bool.false_and]
    rw [hm]
    clear hm
    go_enter Tryz.func122, Tryz.ntmps122
    go_wp2
    go_ret
    exact ⟨rfl, rfl⟩

set_option maxHeartbeats 1000000 in
set_option maxRecDepth 20000 in
theorem cutPrefix0 (s : ByteArray) (w : World) (hm : minusB s = false) :
    Calls Tryz.prog 127 #[.string s, .string ⟨#[45]⟩] w fun e w' => e = .returned (.tuple #[.string s, .bool false]) ∧ w' = w := by
  go_enter Tryz.func127, Tryz.ntmps127
  go_wp2_with fail
  refine (hasPrefix_any s w).mono ?_
  rintro e w' ⟨rfl, rfl⟩
  rw [hm]
  go_wp2
  go_ret2
  exact ⟨rfl, rfl⟩
set_option maxHeartbeats 1000000 in
set_option maxRecDepth 20000 in
theorem cutPrefix1 (s : ByteArray) (w : World) (hs : s.size ≤ 1048576) (hm : minusB s = true) :
    Calls Tryz.prog 127 #[.string s, .string ⟨#[45]⟩] w fun e w' => e = .returned (.tuple #[.string (s.extract 1 s.size), .bool true]) ∧ w' = w := by
  have h1 : 1 ≤ s.size := by unfold minusB at hm; rw [Bool.and_eq_true] at hm; exact of_decide_eq_true hm.1
  go_enter Tryz.func127, Tryz.ntmps127
  go_wp2_with fail
  refine (hasPrefix_any s w).mono ?_
  rintro e w' ⟨rfl, rfl⟩
  rw [hm]
  clear hm
  go_wp2
  go_ret2
  exact ⟨rfl, rfl⟩

set_option maxHeartbeats 1000000 in
set_option maxRecDepth 20000 in
theorem scut0 (s : ByteArray) (w : World) (hm : minusB s = false) :
    Calls Tryz.prog 97 #[.string s, .string ⟨#[45]⟩] w fun e w' => e = .returned (.tuple #[.string s, .bool false]) ∧ w' = w := by
  go_enter Tryz.func97, Tryz.ntmps97
  go_wp2_with fail
  refine (cutPrefix0 s w hm).mono ?_
  rintro e w' ⟨rfl, rfl⟩
  go_wp2
  go_ret2
  exact ⟨rfl, rfl⟩
set_option maxHeartbeats 1000000 in
set_option maxRecDepth 20000 in
theorem scut1 (s : ByteArray) (w : World) (hs : s.size ≤ 1048576) (hm : minusB s = true) :
    Calls Tryz.prog 97 #[.string s, .string ⟨#[45]⟩] w fun e w' => e = .returned (.tuple #[.string (s.extract 1 s.size), .bool true]) ∧ w' = w := by
  go_enter Tryz.func97, Tryz.ntmps97
  go_wp2_with fail
  refine (cutPrefix1 s w hs hm).mono ?_
  rintro e w' ⟨rfl, rfl⟩
  go_wp2
  go_ret2
  exact ⟨rfl, rfl⟩

theorem minus_at (s : ByteArray) (h : 0 < s.size) : minusB s = (((s[0]'h).toNat : Int) == 45) := by
  unfold minusB
  rw [decide_eq_true (show 1 ≤ s.size from h), Bool.true_and, Lib.extract_toList]
  obtain ⟨⟨l⟩⟩ := s
  cases l with
  | nil => exact absurd h (Nat.lt_irrefl 0)
  | cons c l =>
    show ([c] == [45]) = ((c.toNat : Int) == 45)
    rw [Bool.eq_iff_iff]
    simp only [beq_iff_eq, List.cons.injEq, and_true]
    constructor
    · rintro rfl; rfl
    · intro h2
      have h3 : c.toNat = (45 : UInt8).toNat := by have : (45 : UInt8).toNat = 45 := rfl; omega
      exact UInt8.toNat_inj.1 h3
theorem minus_size {s : ByteArray} (h : minusB s = true) : 0 < s.size := by
  unfold minusB at h; rw [Bool.and_eq_true] at h; exact of_decide_eq_true h.1
theorem rest_size {s : ByteArray} : (s.extract 1 s.size).size = s.size - 1 := by
  rw [Lib.size_eq, Lib.extract_data, List.length_take, List.length_drop, ← Lib.size_eq]; omega

set_option maxHeartbeats 1000000 in
set_option maxRecDepth 20000 in
/-- tesselref2.Is, with a -. -/
theorem ris_minus (s : ByteArray) (w : World) (hs : s.size ≤ 65536) (hm : minusB s = true) :
    Calls Tryz.prog 60 #[.string s] w fun e w' => e = .returned (.bool (digitsB (s.extract 1 s.size).data.toList)) ∧ w' = w := by
  have h := minus_size hm
  have hr := rest_size (s := s)
  have hd := rDigits_any (s.extract 1 s.size) w (by omega)
  have hm2 := minus_at s h
  rw [hm] at hm2
  obtain ⟨c, hc⟩ : ∃ c, s[0]'h = c := ⟨_, rfl⟩
  rw [hc] at hm2
  have hc2 := hm2.symm
  clear hm hm2 hr
  obtain ⟨D, hD⟩ : ∃ D, digitsB (s.extract 1 s.size).data.toList = D := ⟨_, rfl⟩
  rw [hD] at hd ⊢
  clear hD
  have HD := hide hd
  clear hd
  go_enter Tryz.func60, Tryz.ntmps60
  go_wp2_with fail
  refine HD.out.mono ?_
  rintro e w' ⟨rfl, rfl⟩
  go_wp2
  go_ret
  exact ⟨rfl, rfl⟩
set_option maxHeartbeats 1000000 in
set_option maxRecDepth 20000 in
/-- tesselref2.Is, without. -/
theorem ris_plain (s : ByteArray) (w : World) (hs : s.size ≤ 65536) (hm : minusB s = false) :
    Calls Tryz.prog 60 #[.string s] w fun e w' => e = .returned (.bool (digitsB s.data.toList)) ∧ w' = w := by
  have HD := hide (rDigits_any s w (by omega))
  obtain ⟨D, hD⟩ : ∃ D, digitsB s.data.toList = D := ⟨_, rfl⟩
  rw [hD] at HD ⊢
  clear hD
  by_cases h : 0 < s.size
  · have hm2 := minus_at s h
    rw [hm] at hm2
    obtain ⟨c, hc⟩ : ∃ c, s[0]'h = c := ⟨_, rfl⟩
    rw [hc] at hm2
    have hc2 := hm2.symm
    clear hm hm2
    go_enter Tryz.func60, Tryz.ntmps60
    go_wp2_with fail
    refine HD.out.mono ?_
    rintro e w' ⟨rfl, rfl⟩
    go_wp2
    go_ret
    exact ⟨rfl, rfl⟩
  · have h0 : s.size = 0 := by omega
    clear hm h
    go_enter Tryz.func60, Tryz.ntmps60
    go_wp2_with fail
    refine HD.out.mono ?_
    rintro e w' ⟨rfl, rfl⟩
    go_wp2
    go_ret
    exact ⟨rfl, rfl⟩

set_option maxHeartbeats 1000000 in
set_option maxRecDepth 20000 in
/-- tesselref2.Parse, with a -. -/
theorem rzparse_minus (s : ByteArray) (w : World) (hs : s.size ≤ 65536) (hm : minusB s = true) (hd : (s.extract 1 s.size).data.toList.all isD = true) :
    Calls Tryz.prog 61 #[.string s] w fun e w' => ∃ v, e = .returned v ∧ ZC w' v (-((pval (s.extract 1 s.size).data.toList : Nat) : Int)) ∧ Below w.heap.size w w' := by
  have h := minus_size hm
  have hr := rest_size (s := s)
  have LD := hide (pval_dig_length hd (by rw [← Lib.size_eq]; omega))
  have HP := hide (fun w => rparse_any (s.extract 1 s.size) w (by omega) hd)
  have hm2 := minus_at s h
  rw [hm] at hm2
  obtain ⟨c, hc⟩ : ∃ c, s[0]'h = c := ⟨_, rfl⟩
  rw [hc] at hm2
  have hc2 := hm2.symm
  clear hm hm2 hr hd
  obtain ⟨V, hV⟩ : ∃ V, pval (s.extract 1 s.size).data.toList = V := ⟨_, rfl⟩
  rw [hV] at HP LD ⊢
  clear hV
  have E1 := hide (show (if true = true then -((val (dig V) : Nat) : Int) else ((val (dig V) : Nat) : Int)) = -((V : Nat) : Int) by rw [val_dig]; rfl)
  go_enter Tryz.func61, Tryz.ntmps61
  have hb := Below.refl w.heap.size w
  have hz := Bk.new w false (.slice none 0 0)
  replace hb := hb.alloc hb.size (.cells #[.bool false, (.slice none 0 0)] 26)
  go_wp2_with fail
  refine (HP.out _).mono ?_
  rintro e w_1 ⟨v1, rfl, g1, hb_1⟩
  replace hz := hz.below hb_1 (Nat.le_refl _)
  replace hb := hb.trans (hb_1.mono hb.size)
  clear hb_1
  go_wp2_with fail
  refine (make_any true _ g1 (by have := LD.out; omega) E1.out).mono ?_
  rintro e w_2 ⟨v2, rfl, g2, hb_2⟩
  replace hz := hz.below hb_2 (Nat.le_refl _)
  replace g1 := g1.below hb_2 (Nat.le_refl _)
  replace hb := hb.trans (hb_2.mono hb.size)
  clear hb_2
  replace g2 := g2.rd
  clear g1
  obtain ⟨sb_hz, o_hz, n_hz, c_hz, rfl⟩ := g2.open2
  have f_hz := hz.facts
  have ho := Bk.only w_2 (w.heap.size) sb_hz (.slice o_hz n_hz c_hz)
  have hbx_ := hz.bx
  replace g2 := g2.frame hbx_ ho
  replace hz := hz.store sb_hz (.slice o_hz n_hz c_hz)
  replace hb := (hb.setCell (p := ⟨w.heap.size, 0, none⟩) (show w.heap.size ≤ w.heap.size by first | assumption | (simp; done) | omega) (.bool sb_hz)).setCell (p := ⟨w.heap.size, 1, none⟩) (show w.heap.size ≤ w.heap.size by first | assumption | (simp; done) | omega) (.slice o_hz n_hz c_hz)
  clear ho hbx_
  obtain ⟨w_3, hw_3⟩ : ∃ v, ((w_2.setCell ⟨w.heap.size, 0, none⟩ (.bool sb_hz)).setCell ⟨w.heap.size, 1, none⟩ (.slice o_hz n_hz c_hz)) = v := ⟨_, rfl⟩
  rw [hw_3] at hz g2 hb
  have f1 := hz.facts
  go_wp2
  refine bodyPost_ret (v := .agg #[.bool sb_hz, .slice o_hz n_hz c_hz]) (by simp [results, Tryz.results61, go_sem, f1.1, f1.2.1]) rfl ?_
  exact ⟨_, rfl, g2, hb⟩
set_option maxHeartbeats 1000000 in
set_option maxRecDepth 20000 in
/-- tesselref2.Parse, without. -/
theorem rzparse_plain (s : ByteArray) (w : World) (hs : s.size ≤ 65536) (hm : minusB s = false) (h : 0 < s.size) (hd : s.data.toList.all isD = true) :
    Calls Tryz.prog 61 #[.string s] w fun e w' => ∃ v, e = .returned v ∧ ZC w' v ((pval s.data.toList : Nat) : Int) ∧ Below w.heap.size w w' := by
  have LD := hide (pval_dig_length hd (by rw [← Lib.size_eq]; omega))
  have HP := hide (fun w => rparse_any s w hs hd)
  have hm2 := minus_at s h
  rw [hm] at hm2
  obtain ⟨c, hc⟩ : ∃ c, s[0]'h = c := ⟨_, rfl⟩
  rw [hc] at hm2
  have hc2 := hm2.symm
  clear hm hm2 hd
  obtain ⟨V, hV⟩ : ∃ V, pval s.data.toList = V := ⟨_, rfl⟩
  rw [hV] at HP LD ⊢
  clear hV
  have E1 := hide (show (if false = true then -((val (dig V) : Nat) : Int) else ((val (dig V) : Nat) : Int)) = ((V : Nat) : Int) by rw [val_dig]; rfl)
  go_enter Tryz.func61, Tryz.ntmps61
  have hb := Below.refl w.heap.size w
  have hz := Bk.new w false (.slice none 0 0)
  replace hb := hb.alloc hb.size (.cells #[.bool false, (.slice none 0 0)] 26)
  go_wp2_with fail
  refine (HP.out _).mono ?_
  rintro e w_1 ⟨v1, rfl, g1, hb_1⟩
  replace hz := hz.below hb_1 (Nat.le_refl _)
  replace hb := hb.trans (hb_1.mono hb.size)
  clear hb_1
  go_wp2_with fail
  refine (make_any false _ g1 (by have := LD.out; omega) E1.out).mono ?_
  rintro e w_2 ⟨v2, rfl, g2, hb_2⟩
  replace hz := hz.below hb_2 (Nat.le_refl _)
  replace g1 := g1.below hb_2 (Nat.le_refl _)
  replace hb := hb.trans (hb_2.mono hb.size)
  clear hb_2
  replace g2 := g2.rd
  clear g1
  obtain ⟨sb_hz, o_hz, n_hz, c_hz, rfl⟩ := g2.open2
  have f_hz := hz.facts
  have ho := Bk.only w_2 (w.heap.size) sb_hz (.slice o_hz n_hz c_hz)
  have hbx_ := hz.bx
  replace g2 := g2.frame hbx_ ho
  replace hz := hz.store sb_hz (.slice o_hz n_hz c_hz)
  replace hb := (hb.setCell (p := ⟨w.heap.size, 0, none⟩) (show w.heap.size ≤ w.heap.size by first | assumption | (simp; done) | omega) (.bool sb_hz)).setCell (p := ⟨w.heap.size, 1, none⟩) (show w.heap.size ≤ w.heap.size by first | assumption | (simp; done) | omega) (.slice o_hz n_hz c_hz)
  clear ho hbx_
  obtain ⟨w_3, hw_3⟩ : ∃ v, ((w_2.setCell ⟨w.heap.size, 0, none⟩ (.bool sb_hz)).setCell ⟨w.heap.size, 1, none⟩ (.slice o_hz n_hz c_hz)) = v := ⟨_, rfl⟩
  rw [hw_3] at hz g2 hb
  have f1 := hz.facts
  go_wp2
  refine bodyPost_ret (v := .agg #[.bool sb_hz, .slice o_hz n_hz c_hz]) (by simp [results, Tryz.results61, go_sem, f1.1, f1.2.1]) rfl ?_
  exact ⟨_, rfl, g2, hb⟩
end Go.Proofs.YtgjainmfilkjmaaGreatDoor

/- zint.Parse, Text; the reference's Text. -/
namespace Go.Proofs.YtgjainmfilkjmaaGreatDoor
open Go.RowKit Dig

set_option maxHeartbeats 400000 in
set_option maxRecDepth 20000 in
/-- signed, of digits that are read. -/
theorem signed_rd {w : World} {s : Value} (neg : Bool) (n : Nat) (z : Int) (h : Rd w s (dig n)) (hz : (if neg then -(n : Int) else (n : Int)) = z) :
    Calls Tryz.prog 72 #[.bool neg, s] w fun e w' => ∃ v, e = .returned v ∧ ZC w' v z ∧ Below w.heap.size w w' := by
  subst hz
  have HSG := hide (sign_of neg n)
  have h' := h
  obtain ⟨oa, cap, rfl, hcap, _⟩ := h
  have H' := hide h'
  clear h'
  have hbl : ∀ o, Below w.heap.size w (w.alloc o) := fun o => (Below.refl _ _).alloc (Nat.le_refl _) o
  have e1 : ((n : Int)).natAbs = n := by simp
  have e2 : (-(n : Int)).natAbs = n := by simp
  have E := hide (And.intro e1 e2)
  clear e1 e2
  cases neg
  · go_enter Tryz.func72, Tryz.ntmps72
    go_wp2
    go_returns
    refine ⟨_, rfl, ⟨_, ?_, by rw [E.out.1]; exact H'.out.below (hbl _) (Nat.le_refl _)⟩, hbl _⟩
    rw [decide_eq_false (by omega : ¬ (n : Int) < 0)]
  · go_enter Tryz.func72, Tryz.ntmps72
    go_wp2
    go_returns
    refine ⟨_, rfl, ⟨_, ?_, by rw [E.out.2]; exact H'.out.below (hbl _) (Nat.le_refl _)⟩, hbl _⟩
    have h3 := HSG.out
    simp only [Bool.true_and, if_true] at h3
    rw [h3]

set_option maxHeartbeats 1000000 in
set_option maxRecDepth 20000 in
/-- zint.Parse of too long a text. -/
theorem zparse_long (s : ByteArray) (w : World) (hs : 65536 < s.size) (hs2 : s.size ≤ 1048576) :
    Calls Tryz.prog 58 #[.string s] w fun e w' => e = .returned (.tuple #[.agg #[.bool false, .slice none 0 0], .int .i64 12]) ∧ Below w.heap.size w w' := by
  go_enter Tryz.func58, Tryz.ntmps58
  have hb := Below.refl w.heap.size w
  have hz := Bk.new w false (.slice none 0 0)
  replace hb := hb.alloc hb.size (.cells #[.bool false, (.slice none 0 0)] 26)
  have f_hz := hz.facts
  go_wp2
  refine bodyPost_ret (v := .tuple #[.agg #[.bool false, .slice none 0 0], .int .i64 12]) (by simp [results, Tryz.results58, go_sem]) rfl ?_
  exact ⟨rfl, hb⟩

set_option maxHeartbeats 1000000 in
set_option maxRecDepth 20000 in
/-- zint.Parse of what is no number. -/
theorem zparse_bad (s : ByteArray) (w : World) (hs : s.size ≤ 65536) (d : ByteArray) (m : Bool)
    (hcut : ∀ w, Calls Tryz.prog 97 #[.string s, .string ⟨#[45]⟩] w fun e w' => e = .returned (.tuple #[.string d, .bool m]) ∧ w' = w) (hds : d.size ≤ 65536) (hd : digitsB d.data.toList = false) :
    Calls Tryz.prog 58 #[.string s] w fun e w' => e = .returned (.tuple #[.agg #[.bool false, .slice none 0 0], .int .i64 7]) ∧ Below w.heap.size w w' := by
  have e1 : parseI d = 7 := by unfold parseI; rw [if_neg (by omega), if_neg (by rw [hd]; exact Bool.false_ne_true)]
  have HP := hide (fun w => parse_any d w (by omega))
  rw [e1] at HP
  have HC := hide hcut
  have e7 : ((7 : Int) == 0) = false := rfl
  clear e1 hcut hd
  go_enter Tryz.func58, Tryz.ntmps58
  have hb := Below.refl w.heap.size w
  have hz := Bk.new w false (.slice none 0 0)
  replace hb := hb.alloc hb.size (.cells #[.bool false, (.slice none 0 0)] 26)
  go_wp2_with fail
  refine (HC.out _).mono ?_
  rintro e w' ⟨rfl, rfl⟩
  go_wp2_with fail
  refine (HP.out _).mono ?_
  rintro e w_1 ⟨v1, rfl, -, hb_1⟩
  replace hz := hz.below hb_1 (Nat.le_refl _)
  replace hb := hb.trans (hb_1.mono hb.size)
  clear hb_1
  have f_hz := hz.facts
  have ho := Bk.only w_1 (w.heap.size) false (.slice none 0 0)
  have hbx_ := hz.bx
  replace hz := hz.store false (.slice none 0 0)
  replace hb := (hb.setCell (p := ⟨w.heap.size, 0, none⟩) (show w.heap.size ≤ w.heap.size by first | assumption | (simp; done) | omega) (.bool false)).setCell (p := ⟨w.heap.size, 1, none⟩) (show w.heap.size ≤ w.heap.size by first | assumption | (simp; done) | omega) (.slice none 0 0)
  clear ho hbx_
  obtain ⟨w_2, hw_2⟩ : ∃ v, ((w_1.setCell ⟨w.heap.size, 0, none⟩ (.bool false)).setCell ⟨w.heap.size, 1, none⟩ (.slice none 0 0)) = v := ⟨_, rfl⟩
  rw [hw_2] at hz hb
  have f1 := hz.facts
  go_wp2
  refine bodyPost_ret (v := .tuple #[.agg #[.bool false, .slice none 0 0], .int .i64 7]) (by simp [results, Tryz.results58, go_sem, f1.1, f1.2.1]) rfl ?_
  exact ⟨rfl, hb⟩

set_option maxHeartbeats 1000000 in
set_option maxRecDepth 20000 in
/-- zint.Parse of a number. -/
theorem zparse_good (s : ByteArray) (w : World) (hs : s.size ≤ 65536) (d : ByteArray) (m : Bool) (z : Int)
    (hcut : ∀ w, Calls Tryz.prog 97 #[.string s, .string ⟨#[45]⟩] w fun e w' => e = .returned (.tuple #[.string d, .bool m]) ∧ w' = w) (hds : d.size ≤ 65536) (hd : digitsB d.data.toList = true)
    (hz' : (if m then -((pval d.data.toList : Nat) : Int) else ((pval d.data.toList : Nat) : Int)) = z) :
    Calls Tryz.prog 58 #[.string s] w fun e w' => ∃ v, e = .returned (.tuple #[v, .int .i64 0]) ∧ ZC w' v z ∧ Below w.heap.size w w' := by
  have e1 : parseI d = 0 := by unfold parseI; rw [if_neg (by omega), if_pos hd]
  have e2 : parseD d = dig (pval d.data.toList) := by unfold parseD; rw [if_neg (by omega), if_pos hd]
  have HP := hide (fun w => parse_any d w (by omega))
  rw [e1, e2] at HP
  have HC := hide hcut
  have HZ := hide hz'
  have e0 : ((0 : Int) == 0) = true := rfl
  clear e1 e2 hcut hd hz'
  go_enter Tryz.func58, Tryz.ntmps58
  have hb := Below.refl w.heap.size w
  have hz := Bk.new w false (.slice none 0 0)
  replace hb := hb.alloc hb.size (.cells #[.bool false, (.slice none 0 0)] 26)
  go_wp2_with fail
  refine (HC.out _).mono ?_
  rintro e w' ⟨rfl, rfl⟩
  go_wp2_with fail
  refine (HP.out _).mono ?_
  rintro e w_1 ⟨v1, rfl, g1, hb_1⟩
  replace hz := hz.below hb_1 (Nat.le_refl _)
  replace hb := hb.trans (hb_1.mono hb.size)
  clear hb_1
  go_wp2_with fail
  refine (signed_rd m _ z g1 HZ.out).mono ?_
  rintro e w_2 ⟨v2, rfl, g2, hb_2⟩
  replace hz := hz.below hb_2 (Nat.le_refl _)
  replace g1 := g1.below hb_2 (Nat.le_refl _)
  replace hb := hb.trans (hb_2.mono hb.size)
  clear hb_2
  clear g1
  obtain ⟨sb_hz, o_hz, n_hz, c_hz, rfl⟩ := g2.open2
  have f_hz := hz.facts
  have ho := Bk.only w_2 (w.heap.size) sb_hz (.slice o_hz n_hz c_hz)
  have hbx_ := hz.bx
  replace g2 := g2.frame hbx_ ho
  replace hz := hz.store sb_hz (.slice o_hz n_hz c_hz)
  replace hb := (hb.setCell (p := ⟨w.heap.size, 0, none⟩) (show w.heap.size ≤ w.heap.size by first | assumption | (simp; done) | omega) (.bool sb_hz)).setCell (p := ⟨w.heap.size, 1, none⟩) (show w.heap.size ≤ w.heap.size by first | assumption | (simp; done) | omega) (.slice o_hz n_hz c_hz)
  clear ho hbx_
  obtain ⟨w_3, hw_3⟩ : ∃ v, ((w_2.setCell ⟨w.heap.size, 0, none⟩ (.bool sb_hz)).setCell ⟨w.heap.size, 1, none⟩ (.slice o_hz n_hz c_hz)) = v := ⟨_, rfl⟩
  rw [hw_3] at hz g2 hb
  have f1 := hz.facts
  go_wp2
  refine bodyPost_ret (v := .tuple #[.agg #[.bool sb_hz, .slice o_hz n_hz c_hz], .int .i64 0]) (by simp [results, Tryz.results58, go_sem, f1.1, f1.2.1]) rfl ?_
  exact ⟨_, rfl, g2, hb⟩

set_option maxHeartbeats 1000000 in
set_option maxRecDepth 20000 in
/-- zint.Text of a number not below 0. -/
theorem ztext_pos {w : World} {v : Value} {z : Int} {l : Nat} (h : ZN w v z l) (hl : l ≤ 1000000000) (hz0 : 0 ≤ z) (htab : Lib.TabIs Tryz.prog w p10 .u64 Lib.pow10Tab) :
    Calls Tryz.prog 47 #[v] w fun e w' => e = .returned (.string ⟨(Lib.decDigits z.natAbs).toArray⟩) ∧ Below w.heap.size w w' := by
  have htabs := Lib.tabBelow_of_tabIs htab
  have hzn := h
  obtain ⟨neg, oa, cap, xs, rfl, hcap, hr, hz, hxl⟩ := h.open_
  have hv : val xs = z.natAbs := by rw [← hz, zv_abs]
  obtain ⟨G, hG⟩ : ∃ G, z.sign = G := ⟨_, rfl⟩
  have hG0 : 0 ≤ G := by rw [← hG]; rcases Int.lt_or_eq_of_le hz0 with h1 | h1; rw [Int.sign_eq_one_of_pos h1]; omega; rw [← h1]; decide
  have hG1 : (G < 0) = False := eq_false (by omega)
  have HV := hide (And.intro hv hG)
  obtain ⟨S, hS⟩ : ∃ S, Lib.decDigits z.natAbs = S := ⟨_, rfl⟩
  have HS := hide hS
  rw [hS]
  clear hz hv h hz0 hS hG
  go_enter Tryz.func47, Tryz.ntmps47
  have hb := Below.refl w.heap.size w
  have hp := Bk.new w neg (.slice oa xs.length cap)
  replace hr := hr.alloc (.cells #[.bool neg, (.slice oa xs.length cap)] 26)
  replace hzn := hzn.alloc (.cells #[.bool neg, (.slice oa xs.length cap)] 26)
  replace hb := hb.alloc hb.size (.cells #[.bool neg, (.slice oa xs.length cap)] 26)
  have f_hp := hp.facts
  go_wp2_with fail
  refine (text_rd hr (by omega) (htabs _ hb)).mono ?_
  rintro e w_1 ⟨rfl, hb_1⟩
  replace hr := hr.below hb_1 (Nat.le_refl _)
  replace hzn := hzn.below hb_1 (Nat.le_refl _)
  replace hp := hp.below hb_1 (Nat.le_refl _)
  replace hb := hb.trans (hb_1.mono hb.size)
  clear hb_1
  rw [HV.out.1, HS.out]
  clear f_hp
  have f_hp := hp.facts
  go_wp2_with fail
  refine (zsign_any hzn hl).mono ?_
  rintro e w_2 ⟨rfl, hb_2⟩
  replace hr := hr.below hb_2 (Nat.le_refl _)
  replace hzn := hzn.below hb_2 (Nat.le_refl _)
  replace hp := hp.below hb_2 (Nat.le_refl _)
  replace hb := hb.trans (hb_2.mono hb.size)
  clear hb_2
  rw [HV.out.2]
  go_wp2
  go_ret
  exact ⟨rfl, hb⟩

set_option maxHeartbeats 1000000 in
set_option maxRecDepth 20000 in
/-- tesselref2.Text of a number below 0. -/
theorem rztext_neg {w : World} {v : Value} {z : Int} {l : Nat} (h : ZN w v z l) (hl : l ≤ 1000000000) (hz0 : z < 0) (hsl : (Lib.decDigits z.natAbs).length ≤ 1000000000000000) :
    Calls Tryz.prog 66 #[v] w fun e w' => e = .returned (.string ⟨((45 : UInt8) :: Lib.decDigits z.natAbs).toArray⟩) ∧ Below w.heap.size w w' := by
  have hzn := h
  obtain ⟨neg, oa, cap, xs, rfl, hcap, hr, hz, hxl⟩ := h.open_
  have hv : val xs = z.natAbs := by rw [← hz, zv_abs]
  have hsg : z.sign = -1 := Int.sign_eq_neg_one_of_neg hz0
  have HV := hide (And.intro hv hsg)
  obtain ⟨S, hS⟩ : ∃ S, Lib.decDigits z.natAbs = S := ⟨_, rfl⟩
  have HS := hide hS
  rw [hS] at hsl ⊢
  have hno : ¬ 9223372036854775807 < 1 + S.length := by omega
  clear hz hv h hz0 hS hsg
  go_enter Tryz.func66, Tryz.ntmps66
  have hb := Below.refl w.heap.size w
  have hp := Bk.new w neg (.slice oa xs.length cap)
  replace hr := hr.alloc (.cells #[.bool neg, (.slice oa xs.length cap)] 26)
  replace hzn := hzn.alloc (.cells #[.bool neg, (.slice oa xs.length cap)] 26)
  replace hb := hb.alloc hb.size (.cells #[.bool neg, (.slice oa xs.length cap)] 26)
  have f_hp := hp.facts
  go_wp2_with fail
  refine (rzsign_any hzn hl).mono ?_
  rintro e w_1 ⟨rfl, hb_1⟩
  replace hr := hr.below hb_1 (Nat.le_refl _)
  replace hzn := hzn.below hb_1 (Nat.le_refl _)
  replace hp := hp.below hb_1 (Nat.le_refl _)
  replace hb := hb.trans (hb_1.mono hb.size)
  clear hb_1
  rw [HV.out.2]
  clear f_hp
  have f_hp := hp.facts
  go_wp2_with fail
  refine (rtext_any hr (by omega)).mono ?_
  rintro e w_2 ⟨rfl, hb_2⟩
  replace hr := hr.below hb_2 (Nat.le_refl _)
  replace hzn := hzn.below hb_2 (Nat.le_refl _)
  replace hp := hp.below hb_2 (Nat.le_refl _)
  replace hb := hb.trans (hb_2.mono hb.size)
  clear hb_2
  rw [HV.out.1, HS.out]
  go_wp2
  go_ret
  refine ⟨?_, hb⟩
  congr 2
set_option maxHeartbeats 1000000 in
set_option maxRecDepth 20000 in
/-- tesselref2.Text of a number not below 0. -/
theorem rztext_pos {w : World} {v : Value} {z : Int} {l : Nat} (h : ZN w v z l) (hl : l ≤ 1000000000) (hz0 : 0 ≤ z) :
    Calls Tryz.prog 66 #[v] w fun e w' => e = .returned (.string ⟨(Lib.decDigits z.natAbs).toArray⟩) ∧ Below w.heap.size w w' := by
  have hzn := h
  obtain ⟨neg, oa, cap, xs, rfl, hcap, hr, hz, hxl⟩ := h.open_
  have hv : val xs = z.natAbs := by rw [← hz, zv_abs]
  obtain ⟨G, hG⟩ : ∃ G, z.sign = G := ⟨_, rfl⟩
  have hG0 : 0 ≤ G := by rw [← hG]; rcases Int.lt_or_eq_of_le hz0 with h1 | h1; rw [Int.sign_eq_one_of_pos h1]; omega; rw [← h1]; decide
  have hG1 : (G < 0) = False := eq_false (by omega)
  have HV := hide (And.intro hv hG)
  obtain ⟨S, hS⟩ : ∃ S, Lib.decDigits z.natAbs = S := ⟨_, rfl⟩
  have HS := hide hS
  rw [hS]
  clear hz hv h hz0 hS hG
  go_enter Tryz.func66, Tryz.ntmps66
  have hb := Below.refl w.heap.size w
  have hp := Bk.new w neg (.slice oa xs.length cap)
  replace hr := hr.alloc (.cells #[.bool neg, (.slice oa xs.length cap)] 26)
  replace hzn := hzn.alloc (.cells #[.bool neg, (.slice oa xs.length cap)] 26)
  replace hb := hb.alloc hb.size (.cells #[.bool neg, (.slice oa xs.length cap)] 26)
  have f_hp := hp.facts
  go_wp2_with fail
  refine (rzsign_any hzn hl).mono ?_
  rintro e w_1 ⟨rfl, hb_1⟩
  replace hr := hr.below hb_1 (Nat.le_refl _)
  replace hzn := hzn.below hb_1 (Nat.le_refl _)
  replace hp := hp.below hb_1 (Nat.le_refl _)
  replace hb := hb.trans (hb_1.mono hb.size)
  clear hb_1
  rw [HV.out.2]
  clear f_hp
  have f_hp := hp.facts
  go_wp2_with fail
  refine (rtext_any hr (by omega)).mono ?_
  rintro e w_2 ⟨rfl, hb_2⟩
  replace hr := hr.below hb_2 (Nat.le_refl _)
  replace hzn := hzn.below hb_2 (Nat.le_refl _)
  replace hp := hp.below hb_2 (Nat.le_refl _)
  replace hb := hb.trans (hb_2.mono hb.size)
  clear hb_2
  rw [HV.out.1, HS.out]
  go_wp2
  go_ret
  exact ⟨rfl, hb⟩
end Go.Proofs.YtgjainmfilkjmaaGreatDoor

/- Texts with a sign, in one piece: what is a number, and which. -/
namespace Go.Proofs.YtgjainmfilkjmaaGreatDoor
open Go Go.RowKit Dig
set_option linter.unusedVariables false

/-- Is a text a whole number's, and which? -/
def zok (s : ByteArray) : Bool := if minusB s = true then digitsB (s.extract 1 s.size).data.toList else digitsB s.data.toList
def zvl (s : ByteArray) : Int := if minusB s = true then -((pval (s.extract 1 s.size).data.toList : Nat) : Int) else ((pval s.data.toList : Nat) : Int)

theorem digits_all' {l : List UInt8} (h : digitsB l = true) : l.all isD = true := by unfold digitsB at h; rw [Bool.and_eq_true] at h; exact h.1
theorem digits_pos {s : ByteArray} (h : digitsB s.data.toList = true) : 0 < s.size := by
  rcases Nat.eq_zero_or_pos s.size with h0 | h0
  · rw [Lib.size_eq, List.length_eq_zero_iff] at h0
    rw [h0] at h
    exact absurd h (by decide)
  · exact h0
theorem zvl_len {s : ByteArray} (hs : s.size ≤ 65536) (h : zok s = true) : (dig (zvl s).natAbs).length ≤ 8192 := by
  unfold zok at h; unfold zvl
  have hr := rest_size (s := s)
  split
  · rename_i hm
    rw [if_pos hm] at h
    rw [Int.natAbs_neg, Int.natAbs_natCast]
    exact pval_dig_length (digits_all' h) (by rw [← Lib.size_eq]; omega)
  · rename_i hm
    rw [if_neg hm] at h
    rw [Int.natAbs_natCast]
    exact pval_dig_length (digits_all' h) (by rw [← Lib.size_eq]; omega)
theorem zparse_no (s : ByteArray) (w : World) (hs : s.size ≤ 65536) (h : zok s = false) :
    Calls Tryz.prog 58 #[.string s] w fun e w' => e = .returned (.tuple #[.agg #[.bool false, .slice none 0 0], .int .i64 7]) ∧ Below w.heap.size w w' := by
  unfold zok at h
  have hr := rest_size (s := s)
  cases hm : minusB s with
  | true => rw [if_pos hm] at h; exact zparse_bad s w hs _ true (fun w => scut1 s w (by omega) hm) (by omega) h
  | false => rw [if_neg (by rw [hm]; exact Bool.false_ne_true)] at h; exact zparse_bad s w hs _ false (fun w => scut0 s w hm) hs h
theorem zparse_ok (s : ByteArray) (w : World) (hs : s.size ≤ 65536) (h : zok s = true) :
    Calls Tryz.prog 58 #[.string s] w fun e w' => ∃ v, e = .returned (.tuple #[v, .int .i64 0]) ∧ ZC w' v (zvl s) ∧ Below w.heap.size w w' := by
  unfold zok at h
  unfold zvl
  have hr := rest_size (s := s)
  cases hm : minusB s with
  | true =>
    rw [if_pos hm] at h
    exact zparse_good s w hs _ true _ (fun w => scut1 s w (by omega) hm) (by omega) h rfl
  | false =>
    rw [if_neg (by rw [hm]; exact Bool.false_ne_true)] at h
    exact zparse_good s w hs _ false _ (fun w => scut0 s w hm) hs h rfl
theorem ris_any (s : ByteArray) (w : World) (hs : s.size ≤ 65536) :
    Calls Tryz.prog 60 #[.string s] w fun e w' => e = .returned (.bool (zok s)) ∧ w' = w := by
  unfold zok
  cases hm : minusB s with
  | true => exact ris_minus s w hs hm
  | false => exact ris_plain s w hs hm
theorem rzparse_ok (s : ByteArray) (w : World) (hs : s.size ≤ 65536) (h : zok s = true) :
    Calls Tryz.prog 61 #[.string s] w fun e w' => ∃ v, e = .returned v ∧ ZC w' v (zvl s) ∧ Below w.heap.size w w' := by
  unfold zok at h
  unfold zvl
  cases hm : minusB s with
  | true => rw [if_pos hm] at h; exact rzparse_minus s w hs hm (digits_all' h)
  | false => rw [if_neg (by rw [hm]; exact Bool.false_ne_true)] at h; exact rzparse_plain s w hs hm (digits_pos h) (digits_all' h)
end Go.Proofs.YtgjainmfilkjmaaGreatDoor

/- gint: Text; the law's awake. -/
namespace Go.Proofs.YtgjainmfilkjmaaGreatDoor
open Go Go.RowKit Dig
set_option linter.unusedVariables false

/-- A whole number's text. -/
def ztx (z : Int) : List UInt8 := if z < 0 then (45 : UInt8) :: Lib.decDigits z.natAbs else Lib.decDigits z.natAbs
def zts (z : Int) : ByteArray := ⟨(ztx z).toArray⟩
theorem dec_le {z : Int} {l : Nat} (h : (dig z.natAbs).length ≤ l) : (Lib.decDigits z.natAbs).length ≤ 10 * (l + 1) :=
  dec_len' (L := l + 1) (Nat.lt_of_lt_of_le (lt_pw_dig _) (pw_mono (by omega))) (by omega)
theorem zts_size {z : Int} {l : Nat} (h : (dig z.natAbs).length ≤ l) : (zts z).size ≤ 10 * l + 11 := by
  have := dec_le h
  unfold zts ztx
  show (List.toArray _).size ≤ _
  split <;> simp <;> omega
theorem ztext_s {w : World} {v : Value} {z : Int} {l : Nat} (h : ZN w v z l) (hl : l ≤ 1000000000) (htab : Lib.TabIs Tryz.prog w p10 .u64 Lib.pow10Tab) :
    Calls Tryz.prog 47 #[v] w fun e w' => e = .returned (.string (zts z)) ∧ Below w.heap.size w w' := by
  by_cases h0 : z < 0
  · unfold zts ztx; rw [if_pos h0]
    exact ztext_neg h hl h0 (Nat.le_trans (dec_le h.len) (by omega)) htab
  · unfold zts ztx; rw [if_neg h0]
    exact ztext_pos h hl (by omega) htab
theorem rztext_s {w : World} {v : Value} {z : Int} {l : Nat} (h : ZN w v z l) (hl : l ≤ 1000000000) :
    Calls Tryz.prog 66 #[v] w fun e w' => e = .returned (.string (zts z)) ∧ Below w.heap.size w w' := by
  by_cases h0 : z < 0
  · unfold zts ztx; rw [if_pos h0]
    exact rztext_neg h hl h0 (Nat.le_trans (dec_le h.len) (by omega))
  · unfold zts ztx; rw [if_neg h0]
    exact rztext_pos h hl (by omega)
theorem dec1 (n : Nat) (h : n < 10) : Lib.decDigits n = [UInt8.ofNat (48 + n)] := by
  rw [Lib.decDigits, dif_pos h]
/-- The parts of a Gaussian integer's text. -/
def gRe (x : Int) : ByteArray := if x = 0 then ⟨#[]⟩ else zts x
def gSg (x y : Int) : ByteArray := if y < 0 then ⟨#[45]⟩ else if x = 0 then ⟨#[]⟩ else ⟨#[43]⟩
def gAm (y : Int) : ByteArray := if 1 < bitsN y.natAbs then zts (y.natAbs : Int) else ⟨#[]⟩
def gts (x y : Int) : ByteArray := if y = 0 then zts x else gRe x ++ gSg x y ++ gAm y ++ ⟨#[105]⟩

section
variable {w : World} {va vb : Value} {x y u v : Int} {l m k n : Nat}
set_option maxHeartbeats 4000000 in
set_option maxRecDepth 20000 in
theorem gText_re (ha : PN w va x l 0 m) (hl : l ≤ 10000000) (hm : m ≤ 10000000) (htab : Lib.TabIs Tryz.prog w p10 .u64 Lib.pow10Tab) :
    Calls Tryz.prog 19 #[va] w fun e w' => e = .returned (.string (zts x)) ∧ Below w.heap.size w w' := by
  have htabs := Lib.tabBelow_of_tabIs htab
  obtain ⟨S, hS⟩ : ∃ S, zts x = S := ⟨_, rfl⟩
  have HS := hide hS
  rw [hS]
  clear hS
  obtain ⟨n_0a, o_0a, k_0a, c_0a, n_0b, o_0b, k_0b, c_0b, rfl, ha1, ha2⟩ := ha
  go_enter Tryz.func19, Tryz.ntmps19
  have hb := Below.refl w.heap.size w
  refine wp_seq_k ?_
  intro K1 hK1
  refine wp_region_sq [0, 1] (by kernel_rfl) ?_
  refine wpSq_call rfl (by kernel_rfl) fun K hK => ?_
  go_big_op
  obtain ⟨p_b1, w_1, eP, eW, x_b1, hn, kb_b1⟩ := newBox w #[.bool n_0a, .slice o_0a k_0a c_0a, .bool n_0b, .slice o_0b k_0b c_0b] 29 hb.size
  rw [eW, eP]
  clear eW eP
  replace ha1 := ha1.bl hn; replace ha2 := ha2.bl hn; replace hb := hb.trans (hn.mono hb.size)
  refine hK _ _ rfl ?_; clear hK K hn
  refine wpSq_call rfl (by kernel_rfl) fun K hK => ?_
  go_big_move; refine hK _ _ rfl ?_; clear hK K
  apply wpSq_end
  refine hK1 _ _ ?_
  refine wp_seq_k ?_
  intro K2 hK2
  refine wp_seq_k ?_
  intro K3 hK3
  refine wp_region_sq [0, 1, 2, 3] (by kernel_rfl) ?_
  refine wpSq_call rfl (by kernel_rfl) fun K hK => ?_
  go_big_op; refine hK _ _ rfl ?_; clear hK K
  refine wpSq_call rfl (by kernel_rfl) fun K hK => ?_
  obtain ⟨d0, d1, d2, d3⟩ := x_b1.f4
  go_big_op; refine hK _ _ rfl ?_; clear hK K d0 d1 d2 d3
  refine wpSq_call rfl (by kernel_rfl) fun K hK => ?_
  go_big_op
  go_fit (zsign_any ha2 (by omega) )
  rintro e w_2 ⟨rfl, hb_2⟩
  replace ha1 := ha1.bl hb_2; replace ha2 := ha2.bl hb_2; replace x_b1 := x_b1.bl hb_2; replace hb := hb.trans (hb_2.mono hb.size)
  refine hK _ _ rfl ?_
  clear hK K hb_2
  refine wpSq_call rfl (by kernel_rfl) fun K hK => ?_
  go_big_op; refine hK _ _ rfl ?_; clear hK K
  apply wpSq_end
  refine hK3 _ _ ?_
  refine wp_cond_true (congrArg Value.bool (show _ = true from (by first | rfl | assumption | (simp; done) | exact decide_eq_true (by omega) | omega))) ?_
  refine wp_seq_k ?_
  intro K4 hK4
  refine wp_region_sq [0, 1, 2, 3] (by kernel_rfl) ?_
  refine wpSq_call rfl (by kernel_rfl) fun K hK => ?_
  go_big_op; refine hK _ _ rfl ?_; clear hK K
  refine wpSq_call rfl (by kernel_rfl) fun K hK => ?_
  obtain ⟨d0, d1, d2, d3⟩ := x_b1.f4
  go_big_op; refine hK _ _ rfl ?_; clear hK K d0 d1 d2 d3
  refine wpSq_call rfl (by kernel_rfl) fun K hK => ?_
  go_big_op
  go_fit (ztext_s ha1 (by omega) (htabs _ hb))
  rintro e w_3 ⟨rfl, hb_3⟩
  replace ha1 := ha1.bl hb_3; replace ha2 := ha2.bl hb_3; replace x_b1 := x_b1.bl hb_3; replace hb := hb.trans (hb_3.mono hb.size)
  rw [HS.out]
  refine hK _ _ rfl ?_
  clear hK K hb_3
  refine wpSq_call rfl (by kernel_rfl) fun K hK => ?_
  go_big_move; refine hK _ _ rfl ?_; clear hK K
  apply wpSq_end
  refine hK4 _ _ ?_
  refine wp_ret ?_
  try dsimp only [Exit.then, Exit.inBlock]
  refine bodyPost_ret (v := (.string S)) (by simp [results, Tryz.results19, go_sem]) rfl ?_
  exact ⟨rfl, hb⟩
set_option maxHeartbeats 4000000 in
set_option maxRecDepth 20000 in
theorem gText_zmo {S T : ByteArray} (ha : PN w va 0 l y m) (hl : l ≤ 10000000) (hm : m ≤ 10000000) (hy : y < 0) (hA : bitsN y.natAbs ≤ 1) (hS : zts x = S) (hT : zts (y.natAbs : Int) = T) (hs : S.size ≤ 10 * l + 11) (ht : T.size ≤ 10 * m + 11) (htab : Lib.TabIs Tryz.prog w p10 .u64 Lib.pow10Tab) :
    Calls Tryz.prog 19 #[va] w fun e w' => e = .returned (.string ((⟨#[]⟩ : ByteArray) ++ ⟨#[45]⟩ ++ ⟨#[]⟩ ++ ⟨#[105]⟩)) ∧ Below w.heap.size w w' := by
  have htabs := Lib.tabBelow_of_tabIs htab
  have HS := hide hS
  have HT := hide hT
  have HY := hide (show y.sign = -1 from Int.sign_eq_neg_one_of_neg hy)
  obtain ⟨B, hB⟩ : ∃ B, bitsN y.natAbs = B := ⟨_, rfl⟩
  rw [hB] at hA
  have HB := hide hB
  clear hB hS hT hy
  obtain ⟨n_0a, o_0a, k_0a, c_0a, n_0b, o_0b, k_0b, c_0b, rfl, ha1, ha2⟩ := ha
  go_enter Tryz.func19, Tryz.ntmps19
  have hb := Below.refl w.heap.size w
  refine wp_seq_k ?_
  intro K1 hK1
  refine wp_region_sq [0, 1] (by kernel_rfl) ?_
  refine wpSq_call rfl (by kernel_rfl) fun K hK => ?_
  go_big_op
  obtain ⟨p_b1, w_1, eP, eW, x_b1, hn, kb_b1⟩ := newBox w #[.bool n_0a, .slice o_0a k_0a c_0a, .bool n_0b, .slice o_0b k_0b c_0b] 29 hb.size
  rw [eW, eP]
  clear eW eP
  replace ha1 := ha1.bl hn; replace ha2 := ha2.bl hn; replace hb := hb.trans (hn.mono hb.size)
  refine hK _ _ rfl ?_; clear hK K hn
  refine wpSq_call rfl (by kernel_rfl) fun K hK => ?_
  go_big_move; refine hK _ _ rfl ?_; clear hK K
  apply wpSq_end
  refine hK1 _ _ ?_
  refine wp_seq_k ?_
  intro K2 hK2
  refine wp_seq_k ?_
  intro K3 hK3
  refine wp_region_sq [0, 1, 2, 3] (by kernel_rfl) ?_
  refine wpSq_call rfl (by kernel_rfl) fun K hK => ?_
  go_big_op; refine hK _ _ rfl ?_; clear hK K
  refine wpSq_call rfl (by kernel_rfl) fun K hK => ?_
  obtain ⟨d0, d1, d2, d3⟩ := x_b1.f4
  go_big_op; refine hK _ _ rfl ?_; clear hK K d0 d1 d2 d3
  refine wpSq_call rfl (by kernel_rfl) fun K hK => ?_
  go_big_op
  go_fit (zsign_any ha2 (by omega) )
  rintro e w_2 ⟨rfl, hb_2⟩
  replace ha1 := ha1.bl hb_2; replace ha2 := ha2.bl hb_2; replace x_b1 := x_b1.bl hb_2; replace hb := hb.trans (hb_2.mono hb.size)
  rw [HY.out]
  refine hK _ _ rfl ?_
  clear hK K hb_2
  refine wpSq_call rfl (by kernel_rfl) fun K hK => ?_
  go_big_op; refine hK _ _ rfl ?_; clear hK K
  apply wpSq_end
  refine hK3 _ _ ?_
  refine wp_cond_false (congrArg Value.bool (show _ = false from (by first | rfl | assumption | (simp; done) | exact decide_eq_false (by omega) | omega))) ?_
  refine wp_skip ?_
  refine hK2 _ _ ?_
  refine wp_seq_k ?_
  intro K4 hK4
  refine wp_region_sq [0, 1, 2] (by kernel_rfl) ?_
  refine wpSq_call rfl (by kernel_rfl) fun K hK => ?_
  go_big_move; refine hK _ _ rfl ?_; clear hK K
  refine wpSq_call rfl (by kernel_rfl) fun K hK => ?_
  go_big_move; refine hK _ _ rfl ?_; clear hK K
  refine wpSq_call rfl (by kernel_rfl) fun K hK => ?_
  go_big_move; refine hK _ _ rfl ?_; clear hK K
  apply wpSq_end
  refine hK4 _ _ ?_
  refine wp_seq_k ?_
  intro K5 hK5
  refine wp_seq_k ?_
  intro K6 hK6
  refine wp_region_sq [0, 1, 2, 3] (by kernel_rfl) ?_
  refine wpSq_call rfl (by kernel_rfl) fun K hK => ?_
  go_big_op; refine hK _ _ rfl ?_; clear hK K
  refine wpSq_call rfl (by kernel_rfl) fun K hK => ?_
  obtain ⟨d0, d1, d2, d3⟩ := x_b1.f4
  go_big_op; refine hK _ _ rfl ?_; clear hK K d0 d1 d2 d3
  refine wpSq_call rfl (by kernel_rfl) fun K hK => ?_
  go_big_op
  go_fit (zsign_any ha1 (by omega) )
  rintro e w_3 ⟨rfl, hb_3⟩
  replace ha1 := ha1.bl hb_3; replace ha2 := ha2.bl hb_3; replace x_b1 := x_b1.bl hb_3; replace hb := hb.trans (hb_3.mono hb.size)
  refine hK _ _ rfl ?_
  clear hK K hb_3
  refine wpSq_call rfl (by kernel_rfl) fun K hK => ?_
  go_big_op; refine hK _ _ rfl ?_; clear hK K
  apply wpSq_end
  refine hK6 _ _ ?_
  refine wp_cond_false (congrArg Value.bool (show _ = false from (by first | rfl | assumption | (simp; done) | exact decide_eq_false (by omega) | omega))) ?_
  refine wp_skip ?_
  refine hK5 _ _ ?_
  refine wp_seq_k ?_
  intro K7 hK7
  refine wp_seq_k ?_
  intro K8 hK8
  refine wp_region_sq [0, 1, 2, 3] (by kernel_rfl) ?_
  refine wpSq_call rfl (by kernel_rfl) fun K hK => ?_
  go_big_op; refine hK _ _ rfl ?_; clear hK K
  refine wpSq_call rfl (by kernel_rfl) fun K hK => ?_
  obtain ⟨d0, d1, d2, d3⟩ := x_b1.f4
  go_big_op; refine hK _ _ rfl ?_; clear hK K d0 d1 d2 d3
  refine wpSq_call rfl (by kernel_rfl) fun K hK => ?_
  go_big_op
  go_fit (zsign_any ha2 (by omega) )
  rintro e w_4 ⟨rfl, hb_4⟩
  replace ha1 := ha1.bl hb_4; replace ha2 := ha2.bl hb_4; replace x_b1 := x_b1.bl hb_4; replace hb := hb.trans (hb_4.mono hb.size)
  rw [HY.out]
  refine hK _ _ rfl ?_
  clear hK K hb_4
  refine wpSq_call rfl (by kernel_rfl) fun K hK => ?_
  go_big_op; refine hK _ _ rfl ?_; clear hK K
  apply wpSq_end
  refine hK8 _ _ ?_
  refine wp_cond_true (congrArg Value.bool (show _ = true from (by first | rfl | assumption | (simp; done) | exact decide_eq_true (by omega) | omega))) ?_
  refine wp_region_sq [0] (by kernel_rfl) ?_
  refine wpSq_call rfl (by kernel_rfl) fun K hK => ?_
  go_big_move; refine hK _ _ rfl ?_; clear hK K
  apply wpSq_end
  refine hK7 _ _ ?_
  refine wp_seq_k ?_
  intro K9 hK9
  refine wp_seq_k ?_
  intro K10 hK10
  refine wp_region_sq [0, 1, 2, 3] (by kernel_rfl) ?_
  refine wpSq_call rfl (by kernel_rfl) fun K hK => ?_
  go_big_op; refine hK _ _ rfl ?_; clear hK K
  refine wpSq_call rfl (by kernel_rfl) fun K hK => ?_
  obtain ⟨d0, d1, d2, d3⟩ := x_b1.f4
  go_big_op; refine hK _ _ rfl ?_; clear hK K d0 d1 d2 d3
  refine wpSq_call rfl (by kernel_rfl) fun K hK => ?_
  go_big_op
  go_fit (zbits_any ha2 (by omega) )
  rintro e w_5 ⟨rfl, hb_5⟩
  replace ha1 := ha1.bl hb_5; replace ha2 := ha2.bl hb_5; replace x_b1 := x_b1.bl hb_5; replace hb := hb.trans (hb_5.mono hb.size)
  rw [HB.out]
  refine hK _ _ rfl ?_
  clear hK K hb_5
  refine wpSq_call rfl (by kernel_rfl) fun K hK => ?_
  go_big_op; refine hK _ _ rfl ?_; clear hK K
  apply wpSq_end
  refine hK10 _ _ ?_
  refine wp_cond_false (congrArg Value.bool (show _ = false from (by first | rfl | assumption | (simp; done) | exact decide_eq_false (by omega) | omega))) ?_
  refine wp_skip ?_
  refine hK9 _ _ ?_
  refine wp_seq_k ?_
  intro K11 hK11
  refine wp_region_sq [0, 1, 2, 3, 4, 5, 6] (by kernel_rfl) ?_
  refine wpSq_call rfl (by kernel_rfl) fun K hK => ?_
  go_big_move; refine hK _ _ rfl ?_; clear hK K
  refine wpSq_call rfl (by kernel_rfl) fun K hK => ?_
  go_big_move; refine hK _ _ rfl ?_; clear hK K
  refine wpSq_call rfl (by kernel_rfl) fun K hK => ?_
  go_big_op; refine hK _ _ rfl ?_; clear hK K
  refine wpSq_call rfl (by kernel_rfl) fun K hK => ?_
  go_big_move; refine hK _ _ rfl ?_; clear hK K
  refine wpSq_call rfl (by kernel_rfl) fun K hK => ?_
  go_big_op; refine hK _ _ rfl ?_; clear hK K
  refine wpSq_call rfl (by kernel_rfl) fun K hK => ?_
  go_big_op; refine hK _ _ rfl ?_; clear hK K
  refine wpSq_call rfl (by kernel_rfl) fun K hK => ?_
  go_big_move; refine hK _ _ rfl ?_; clear hK K
  apply wpSq_end
  refine hK11 _ _ ?_
  refine wp_ret ?_
  try dsimp only [Exit.then, Exit.inBlock]
  refine bodyPost_ret (v := (.string ((⟨#[]⟩ : ByteArray) ++ ⟨#[45]⟩ ++ ⟨#[]⟩ ++ ⟨#[105]⟩))) (by simp [results, Tryz.results19, go_sem]) rfl ?_
  exact ⟨rfl, hb⟩
set_option maxHeartbeats 4000000 in
set_option maxRecDepth 20000 in
theorem gText_zmb {S T : ByteArray} (ha : PN w va 0 l y m) (hl : l ≤ 10000000) (hm : m ≤ 10000000) (hy : y < 0) (hA : 1 < bitsN y.natAbs) (hS : zts x = S) (hT : zts (y.natAbs : Int) = T) (hs : S.size ≤ 10 * l + 11) (ht : T.size ≤ 10 * m + 11) (htab : Lib.TabIs Tryz.prog w p10 .u64 Lib.pow10Tab) :
    Calls Tryz.prog 19 #[va] w fun e w' => e = .returned (.string ((⟨#[]⟩ : ByteArray) ++ ⟨#[45]⟩ ++ T ++ ⟨#[105]⟩)) ∧ Below w.heap.size w w' := by
  have htabs := Lib.tabBelow_of_tabIs htab
  have HS := hide hS
  have HT := hide hT
  have HY := hide (show y.sign = -1 from Int.sign_eq_neg_one_of_neg hy)
  obtain ⟨B, hB⟩ : ∃ B, bitsN y.natAbs = B := ⟨_, rfl⟩
  rw [hB] at hA
  have HB := hide hB
  clear hB hS hT hy
  obtain ⟨n_0a, o_0a, k_0a, c_0a, n_0b, o_0b, k_0b, c_0b, rfl, ha1, ha2⟩ := ha
  go_enter Tryz.func19, Tryz.ntmps19
  have hb := Below.refl w.heap.size w
  refine wp_seq_k ?_
  intro K1 hK1
  refine wp_region_sq [0, 1] (by kernel_rfl) ?_
  refine wpSq_call rfl (by kernel_rfl) fun K hK => ?_
  go_big_op
  obtain ⟨p_b1, w_1, eP, eW, x_b1, hn, kb_b1⟩ := newBox w #[.bool n_0a, .slice o_0a k_0a c_0a, .bool n_0b, .slice o_0b k_0b c_0b] 29 hb.size
  rw [eW, eP]
  clear eW eP
  replace ha1 := ha1.bl hn; replace ha2 := ha2.bl hn; replace hb := hb.trans (hn.mono hb.size)
  refine hK _ _ rfl ?_; clear hK K hn
  refine wpSq_call rfl (by kernel_rfl) fun K hK => ?_
  go_big_move; refine hK _ _ rfl ?_; clear hK K
  apply wpSq_end
  refine hK1 _ _ ?_
  refine wp_seq_k ?_
  intro K2 hK2
  refine wp_seq_k ?_
  intro K3 hK3
  refine wp_region_sq [0, 1, 2, 3] (by kernel_rfl) ?_
  refine wpSq_call rfl (by kernel_rfl) fun K hK => ?_
  go_big_op; refine hK _ _ rfl ?_; clear hK K
  refine wpSq_call rfl (by kernel_rfl) fun K hK => ?_
  obtain ⟨d0, d1, d2, d3⟩ := x_b1.f4
  go_big_op; refine hK _ _ rfl ?_; clear hK K d0 d1 d2 d3
  refine wpSq_call rfl (by kernel_rfl) fun K hK => ?_
  go_big_op
  go_fit (zsign_any ha2 (by omega) )
  rintro e w_2 ⟨rfl, hb_2⟩
  replace ha1 := ha1.bl hb_2; replace ha2 := ha2.bl hb_2; replace x_b1 := x_b1.bl hb_2; replace hb := hb.trans (hb_2.mono hb.size)
  rw [HY.out]
  refine hK _ _ rfl ?_
  clear hK K hb_2
  refine wpSq_call rfl (by kernel_rfl) fun K hK => ?_
  go_big_op; refine hK _ _ rfl ?_; clear hK K
  apply wpSq_end
  refine hK3 _ _ ?_
  refine wp_cond_false (congrArg Value.bool (show _ = false from (by first | rfl | assumption | (simp; done) | exact decide_eq_false (by omega) | omega))) ?_
  refine wp_skip ?_
  refine hK2 _ _ ?_
  refine wp_seq_k ?_
  intro K4 hK4
  refine wp_region_sq [0, 1, 2] (by kernel_rfl) ?_
  refine wpSq_call rfl (by kernel_rfl) fun K hK => ?_
  go_big_move; refine hK _ _ rfl ?_; clear hK K
  refine wpSq_call rfl (by kernel_rfl) fun K hK => ?_
  go_big_move; refine hK _ _ rfl ?_; clear hK K
  refine wpSq_call rfl (by kernel_rfl) fun K hK => ?_
  go_big_move; refine hK _ _ rfl ?_; clear hK K
  apply wpSq_end
  refine hK4 _ _ ?_
  refine wp_seq_k ?_
  intro K5 hK5
  refine wp_seq_k ?_
  intro K6 hK6
  refine wp_region_sq [0, 1, 2, 3] (by kernel_rfl) ?_
  refine wpSq_call rfl (by kernel_rfl) fun K hK => ?_
  go_big_op; refine hK _ _ rfl ?_; clear hK K
  refine wpSq_call rfl (by kernel_rfl) fun K hK => ?_
  obtain ⟨d0, d1, d2, d3⟩ := x_b1.f4
  go_big_op; refine hK _ _ rfl ?_; clear hK K d0 d1 d2 d3
  refine wpSq_call rfl (by kernel_rfl) fun K hK => ?_
  go_big_op
  go_fit (zsign_any ha1 (by omega) )
  rintro e w_3 ⟨rfl, hb_3⟩
  replace ha1 := ha1.bl hb_3; replace ha2 := ha2.bl hb_3; replace x_b1 := x_b1.bl hb_3; replace hb := hb.trans (hb_3.mono hb.size)
  refine hK _ _ rfl ?_
  clear hK K hb_3
  refine wpSq_call rfl (by kernel_rfl) fun K hK => ?_
  go_big_op; refine hK _ _ rfl ?_; clear hK K
  apply wpSq_end
  refine hK6 _ _ ?_
  refine wp_cond_false (congrArg Value.bool (show _ = false from (by first | rfl | assumption | (simp; done) | exact decide_eq_false (by omega) | omega))) ?_
  refine wp_skip ?_
  refine hK5 _ _ ?_
  refine wp_seq_k ?_
  intro K7 hK7
  refine wp_seq_k ?_
  intro K8 hK8
  refine wp_region_sq [0, 1, 2, 3] (by kernel_rfl) ?_
  refine wpSq_call rfl (by kernel_rfl) fun K hK => ?_
  go_big_op; refine hK _ _ rfl ?_; clear hK K
  refine wpSq_call rfl (by kernel_rfl) fun K hK => ?_
  obtain ⟨d0, d1, d2, d3⟩ := x_b1.f4
  go_big_op; refine hK _ _ rfl ?_; clear hK K d0 d1 d2 d3
  refine wpSq_call rfl (by kernel_rfl) fun K hK => ?_
  go_big_op
  go_fit (zsign_any ha2 (by omega) )
  rintro e w_4 ⟨rfl, hb_4⟩
  replace ha1 := ha1.bl hb_4; replace ha2 := ha2.bl hb_4; replace x_b1 := x_b1.bl hb_4; replace hb := hb.trans (hb_4.mono hb.size)
  rw [HY.out]
  refine hK _ _ rfl ?_
  clear hK K hb_4
  refine wpSq_call rfl (by kernel_rfl) fun K hK => ?_
  go_big_op; refine hK _ _ rfl ?_; clear hK K
  apply wpSq_end
  refine hK8 _ _ ?_
  refine wp_cond_true (congrArg Value.bool (show _ = true from (by first | rfl | assumption | (simp; done) | exact decide_eq_true (by omega) | omega))) ?_
  refine wp_region_sq [0] (by kernel_rfl) ?_
  refine wpSq_call rfl (by kernel_rfl) fun K hK => ?_
  go_big_move; refine hK _ _ rfl ?_; clear hK K
  apply wpSq_end
  refine hK7 _ _ ?_
  refine wp_seq_k ?_
  intro K9 hK9
  refine wp_seq_k ?_
  intro K10 hK10
  refine wp_region_sq [0, 1, 2, 3] (by kernel_rfl) ?_
  refine wpSq_call rfl (by kernel_rfl) fun K hK => ?_
  go_big_op; refine hK _ _ rfl ?_; clear hK K
  refine wpSq_call rfl (by kernel_rfl) fun K hK => ?_
  obtain ⟨d0, d1, d2, d3⟩ := x_b1.f4
  go_big_op; refine hK _ _ rfl ?_; clear hK K d0 d1 d2 d3
  refine wpSq_call rfl (by kernel_rfl) fun K hK => ?_
  go_big_op
  go_fit (zbits_any ha2 (by omega) )
  rintro e w_5 ⟨rfl, hb_5⟩
  replace ha1 := ha1.bl hb_5; replace ha2 := ha2.bl hb_5; replace x_b1 := x_b1.bl hb_5; replace hb := hb.trans (hb_5.mono hb.size)
  rw [HB.out]
  refine hK _ _ rfl ?_
  clear hK K hb_5
  refine wpSq_call rfl (by kernel_rfl) fun K hK => ?_
  go_big_op; refine hK _ _ rfl ?_; clear hK K
  apply wpSq_end
  refine hK10 _ _ ?_
  refine wp_cond_true (congrArg Value.bool (show _ = true from (by first | rfl | assumption | (simp; done) | exact decide_eq_true (by omega) | omega))) ?_
  refine wp_region_sq [0, 1, 2, 3, 4] (by kernel_rfl) ?_
  refine wpSq_call rfl (by kernel_rfl) fun K hK => ?_
  go_big_op; refine hK _ _ rfl ?_; clear hK K
  refine wpSq_call rfl (by kernel_rfl) fun K hK => ?_
  obtain ⟨d0, d1, d2, d3⟩ := x_b1.f4
  go_big_op; refine hK _ _ rfl ?_; clear hK K d0 d1 d2 d3
  refine wpSq_call rfl (by kernel_rfl) fun K hK => ?_
  go_big_op
  go_fit (zabs_any ha2 (by omega) )
  rintro e w_6 ⟨v_g, rfl, g, hb_6⟩
  clear ha1 x_b1
  replace ha2 := ha2.bl hb_6; replace hb := hb.trans (hb_6.mono hb.size)
  replace g := g.rd
  obtain ⟨n_g, o_g, k_g, c_g, rfl⟩ := g.open2
  have Lg := hide (g.lenOf (zlen_abs (ha2.len)))
  refine hK _ _ rfl ?_
  clear hK K hb_6
  refine wpSq_call rfl (by kernel_rfl) fun K hK => ?_
  go_big_op
  go_fit (ztext_s (g.zn Lg.out) (by omega) (htabs _ hb))
  rintro e w_7 ⟨rfl, hb_7⟩
  clear ha2
  replace g := g.bl hb_7; replace hb := hb.trans (hb_7.mono hb.size)
  rw [HT.out]
  refine hK _ _ rfl ?_
  clear hK K hb_7
  refine wpSq_call rfl (by kernel_rfl) fun K hK => ?_
  go_big_move; refine hK _ _ rfl ?_; clear hK K
  apply wpSq_end
  refine hK9 _ _ ?_
  refine wp_seq_k ?_
  intro K11 hK11
  refine wp_region_sq [0, 1, 2, 3, 4, 5, 6] (by kernel_rfl) ?_
  refine wpSq_call rfl (by kernel_rfl) fun K hK => ?_
  go_big_move; refine hK _ _ rfl ?_; clear hK K
  refine wpSq_call rfl (by kernel_rfl) fun K hK => ?_
  go_big_move; refine hK _ _ rfl ?_; clear hK K
  refine wpSq_call rfl (by kernel_rfl) fun K hK => ?_
  go_big_op; refine hK _ _ rfl ?_; clear hK K
  refine wpSq_call rfl (by kernel_rfl) fun K hK => ?_
  go_big_move; refine hK _ _ rfl ?_; clear hK K
  refine wpSq_call rfl (by kernel_rfl) fun K hK => ?_
  go_big_op; refine hK _ _ rfl ?_; clear hK K
  refine wpSq_call rfl (by kernel_rfl) fun K hK => ?_
  go_big_op; refine hK _ _ rfl ?_; clear hK K
  refine wpSq_call rfl (by kernel_rfl) fun K hK => ?_
  go_big_move; refine hK _ _ rfl ?_; clear hK K
  apply wpSq_end
  refine hK11 _ _ ?_
  refine wp_ret ?_
  try dsimp only [Exit.then, Exit.inBlock]
  refine bodyPost_ret (v := (.string ((⟨#[]⟩ : ByteArray) ++ ⟨#[45]⟩ ++ T ++ ⟨#[105]⟩))) (by simp [results, Tryz.results19, go_sem]) rfl ?_
  exact ⟨rfl, hb⟩
set_option maxHeartbeats 4000000 in
set_option maxRecDepth 20000 in
theorem gText_zpo {S T : ByteArray} (ha : PN w va 0 l y m) (hl : l ≤ 10000000) (hm : m ≤ 10000000) (hy : 0 < y) (hA : bitsN y.natAbs ≤ 1) (hS : zts x = S) (hT : zts (y.natAbs : Int) = T) (hs : S.size ≤ 10 * l + 11) (ht : T.size ≤ 10 * m + 11) (htab : Lib.TabIs Tryz.prog w p10 .u64 Lib.pow10Tab) :
    Calls Tryz.prog 19 #[va] w fun e w' => e = .returned (.string ((⟨#[]⟩ : ByteArray) ++ ⟨#[]⟩ ++ ⟨#[]⟩ ++ ⟨#[105]⟩)) ∧ Below w.heap.size w w' := by
  have htabs := Lib.tabBelow_of_tabIs htab
  have HS := hide hS
  have HT := hide hT
  have HY := hide (show y.sign = 1 from Int.sign_eq_one_of_pos hy)
  obtain ⟨B, hB⟩ : ∃ B, bitsN y.natAbs = B := ⟨_, rfl⟩
  rw [hB] at hA
  have HB := hide hB
  clear hB hS hT hy
  obtain ⟨n_0a, o_0a, k_0a, c_0a, n_0b, o_0b, k_0b, c_0b, rfl, ha1, ha2⟩ := ha
  go_enter Tryz.func19, Tryz.ntmps19
  have hb := Below.refl w.heap.size w
  refine wp_seq_k ?_
  intro K1 hK1
  refine wp_region_sq [0, 1] (by kernel_rfl) ?_
  refine wpSq_call rfl (by kernel_rfl) fun K hK => ?_
  go_big_op
  obtain ⟨p_b1, w_1, eP, eW, x_b1, hn, kb_b1⟩ := newBox w #[.bool n_0a, .slice o_0a k_0a c_0a, .bool n_0b, .slice o_0b k_0b c_0b] 29 hb.size
  rw [eW, eP]
  clear eW eP
  replace ha1 := ha1.bl hn; replace ha2 := ha2.bl hn; replace hb := hb.trans (hn.mono hb.size)
  refine hK _ _ rfl ?_; clear hK K hn
  refine wpSq_call rfl (by kernel_rfl) fun K hK => ?_
  go_big_move; refine hK _ _ rfl ?_; clear hK K
  apply wpSq_end
  refine hK1 _ _ ?_
  refine wp_seq_k ?_
  intro K2 hK2
  refine wp_seq_k ?_
  intro K3 hK3
  refine wp_region_sq [0, 1, 2, 3] (by kernel_rfl) ?_
  refine wpSq_call rfl (by kernel_rfl) fun K hK => ?_
  go_big_op; refine hK _ _ rfl ?_; clear hK K
  refine wpSq_call rfl (by kernel_rfl) fun K hK => ?_
  obtain ⟨d0, d1, d2, d3⟩ := x_b1.f4
  go_big_op; refine hK _ _ rfl ?_; clear hK K d0 d1 d2 d3
  refine wpSq_call rfl (by kernel_rfl) fun K hK => ?_
  go_big_op
  go_fit (zsign_any ha2 (by omega) )
  rintro e w_2 ⟨rfl, hb_2⟩
  replace ha1 := ha1.bl hb_2; replace ha2 := ha2.bl hb_2; replace x_b1 := x_b1.bl hb_2; replace hb := hb.trans (hb_2.mono hb.size)
  rw [HY.out]
  refine hK _ _ rfl ?_
  clear hK K hb_2
  refine wpSq_call rfl (by kernel_rfl) fun K hK => ?_
  go_big_op; refine hK _ _ rfl ?_; clear hK K
  apply wpSq_end
  refine hK3 _ _ ?_
  refine wp_cond_false (congrArg Value.bool (show _ = false from (by first | rfl | assumption | (simp; done) | exact decide_eq_false (by omega) | omega))) ?_
  refine wp_skip ?_
  refine hK2 _ _ ?_
  refine wp_seq_k ?_
  intro K4 hK4
  refine wp_region_sq [0, 1, 2] (by kernel_rfl) ?_
  refine wpSq_call rfl (by kernel_rfl) fun K hK => ?_
  go_big_move; refine hK _ _ rfl ?_; clear hK K
  refine wpSq_call rfl (by kernel_rfl) fun K hK => ?_
  go_big_move; refine hK _ _ rfl ?_; clear hK K
  refine wpSq_call rfl (by kernel_rfl) fun K hK => ?_
  go_big_move; refine hK _ _ rfl ?_; clear hK K
  apply wpSq_end
  refine hK4 _ _ ?_
  refine wp_seq_k ?_
  intro K5 hK5
  refine wp_seq_k ?_
  intro K6 hK6
  refine wp_region_sq [0, 1, 2, 3] (by kernel_rfl) ?_
  refine wpSq_call rfl (by kernel_rfl) fun K hK => ?_
  go_big_op; refine hK _ _ rfl ?_; clear hK K
  refine wpSq_call rfl (by kernel_rfl) fun K hK => ?_
  obtain ⟨d0, d1, d2, d3⟩ := x_b1.f4
  go_big_op; refine hK _ _ rfl ?_; clear hK K d0 d1 d2 d3
  refine wpSq_call rfl (by kernel_rfl) fun K hK => ?_
  go_big_op
  go_fit (zsign_any ha1 (by omega) )
  rintro e w_3 ⟨rfl, hb_3⟩
  replace ha1 := ha1.bl hb_3; replace ha2 := ha2.bl hb_3; replace x_b1 := x_b1.bl hb_3; replace hb := hb.trans (hb_3.mono hb.size)
  refine hK _ _ rfl ?_
  clear hK K hb_3
  refine wpSq_call rfl (by kernel_rfl) fun K hK => ?_
  go_big_op; refine hK _ _ rfl ?_; clear hK K
  apply wpSq_end
  refine hK6 _ _ ?_
  refine wp_cond_false (congrArg Value.bool (show _ = false from (by first | rfl | assumption | (simp; done) | exact decide_eq_false (by omega) | omega))) ?_
  refine wp_skip ?_
  refine hK5 _ _ ?_
  refine wp_seq_k ?_
  intro K7 hK7
  refine wp_seq_k ?_
  intro K8 hK8
  refine wp_region_sq [0, 1, 2, 3] (by kernel_rfl) ?_
  refine wpSq_call rfl (by kernel_rfl) fun K hK => ?_
  go_big_op; refine hK _ _ rfl ?_; clear hK K
  refine wpSq_call rfl (by kernel_rfl) fun K hK => ?_
  obtain ⟨d0, d1, d2, d3⟩ := x_b1.f4
  go_big_op; refine hK _ _ rfl ?_; clear hK K d0 d1 d2 d3
  refine wpSq_call rfl (by kernel_rfl) fun K hK => ?_
  go_big_op
  go_fit (zsign_any ha2 (by omega) )
  rintro e w_4 ⟨rfl, hb_4⟩
  replace ha1 := ha1.bl hb_4; replace ha2 := ha2.bl hb_4; replace x_b1 := x_b1.bl hb_4; replace hb := hb.trans (hb_4.mono hb.size)
  rw [HY.out]
  refine hK _ _ rfl ?_
  clear hK K hb_4
  refine wpSq_call rfl (by kernel_rfl) fun K hK => ?_
  go_big_op; refine hK _ _ rfl ?_; clear hK K
  apply wpSq_end
  refine hK8 _ _ ?_
  refine wp_cond_false (congrArg Value.bool (show _ = false from (by first | rfl | assumption | (simp; done) | exact decide_eq_false (by omega) | omega))) ?_
  refine wp_skip ?_
  refine hK7 _ _ ?_
  refine wp_seq_k ?_
  intro K9 hK9
  refine wp_seq_k ?_
  intro K10 hK10
  refine wp_region_sq [0, 1, 2, 3] (by kernel_rfl) ?_
  refine wpSq_call rfl (by kernel_rfl) fun K hK => ?_
  go_big_op; refine hK _ _ rfl ?_; clear hK K
  refine wpSq_call rfl (by kernel_rfl) fun K hK => ?_
  obtain ⟨d0, d1, d2, d3⟩ := x_b1.f4
  go_big_op; refine hK _ _ rfl ?_; clear hK K d0 d1 d2 d3
  refine wpSq_call rfl (by kernel_rfl) fun K hK => ?_
  go_big_op
  go_fit (zbits_any ha2 (by omega) )
  rintro e w_5 ⟨rfl, hb_5⟩
  replace ha1 := ha1.bl hb_5; replace ha2 := ha2.bl hb_5; replace x_b1 := x_b1.bl hb_5; replace hb := hb.trans (hb_5.mono hb.size)
  rw [HB.out]
  refine hK _ _ rfl ?_
  clear hK K hb_5
  refine wpSq_call rfl (by kernel_rfl) fun K hK => ?_
  go_big_op; refine hK _ _ rfl ?_; clear hK K
  apply wpSq_end
  refine hK10 _ _ ?_
  refine wp_cond_false (congrArg Value.bool (show _ = false from (by first | rfl | assumption | (simp; done) | exact decide_eq_false (by omega) | omega))) ?_
  refine wp_skip ?_
  refine hK9 _ _ ?_
  refine wp_seq_k ?_
  intro K11 hK11
  refine wp_region_sq [0, 1, 2, 3, 4, 5, 6] (by kernel_rfl) ?_
  refine wpSq_call rfl (by kernel_rfl) fun K hK => ?_
  go_big_move; refine hK _ _ rfl ?_; clear hK K
  refine wpSq_call rfl (by kernel_rfl) fun K hK => ?_
  go_big_move; refine hK _ _ rfl ?_; clear hK K
  refine wpSq_call rfl (by kernel_rfl) fun K hK => ?_
  go_big_op; refine hK _ _ rfl ?_; clear hK K
  refine wpSq_call rfl (by kernel_rfl) fun K hK => ?_
  go_big_move; refine hK _ _ rfl ?_; clear hK K
  refine wpSq_call rfl (by kernel_rfl) fun K hK => ?_
  go_big_op; refine hK _ _ rfl ?_; clear hK K
  refine wpSq_call rfl (by kernel_rfl) fun K hK => ?_
  go_big_op; refine hK _ _ rfl ?_; clear hK K
  refine wpSq_call rfl (by kernel_rfl) fun K hK => ?_
  go_big_move; refine hK _ _ rfl ?_; clear hK K
  apply wpSq_end
  refine hK11 _ _ ?_
  refine wp_ret ?_
  try dsimp only [Exit.then, Exit.inBlock]
  refine bodyPost_ret (v := (.string ((⟨#[]⟩ : ByteArray) ++ ⟨#[]⟩ ++ ⟨#[]⟩ ++ ⟨#[105]⟩))) (by simp [results, Tryz.results19, go_sem]) rfl ?_
  exact ⟨rfl, hb⟩
set_option maxHeartbeats 4000000 in
set_option maxRecDepth 20000 in
theorem gText_zpb {S T : ByteArray} (ha : PN w va 0 l y m) (hl : l ≤ 10000000) (hm : m ≤ 10000000) (hy : 0 < y) (hA : 1 < bitsN y.natAbs) (hS : zts x = S) (hT : zts (y.natAbs : Int) = T) (hs : S.size ≤ 10 * l + 11) (ht : T.size ≤ 10 * m + 11) (htab : Lib.TabIs Tryz.prog w p10 .u64 Lib.pow10Tab) :
    Calls Tryz.prog 19 #[va] w fun e w' => e = .returned (.string ((⟨#[]⟩ : ByteArray) ++ ⟨#[]⟩ ++ T ++ ⟨#[105]⟩)) ∧ Below w.heap.size w w' := by
  have htabs := Lib.tabBelow_of_tabIs htab
  have HS := hide hS
  have HT := hide hT
  have HY := hide (show y.sign = 1 from Int.sign_eq_one_of_pos hy)
  obtain ⟨B, hB⟩ : ∃ B, bitsN y.natAbs = B := ⟨_, rfl⟩
  rw [hB] at hA
  have HB := hide hB
  clear hB hS hT hy
  obtain ⟨n_0a, o_0a, k_0a, c_0a, n_0b, o_0b, k_0b, c_0b, rfl, ha1, ha2⟩ := ha
  go_enter Tryz.func19, Tryz.ntmps19
  have hb := Below.refl w.heap.size w
  refine wp_seq_k ?_
  intro K1 hK1
  refine wp_region_sq [0, 1] (by kernel_rfl) ?_
  refine wpSq_call rfl (by kernel_rfl) fun K hK => ?_
  go_big_op
  obtain ⟨p_b1, w_1, eP, eW, x_b1, hn, kb_b1⟩ := newBox w #[.bool n_0a, .slice o_0a k_0a c_0a, .bool n_0b, .slice o_0b k_0b c_0b] 29 hb.size
  rw [eW, eP]
  clear eW eP
  replace ha1 := ha1.bl hn; replace ha2 := ha2.bl hn; replace hb := hb.trans (hn.mono hb.size)
  refine hK _ _ rfl ?_; clear hK K hn
  refine wpSq_call rfl (by kernel_rfl) fun K hK => ?_
  go_big_move; refine hK _ _ rfl ?_; clear hK K
  apply wpSq_end
  refine hK1 _ _ ?_
  refine wp_seq_k ?_
  intro K2 hK2
  refine wp_seq_k ?_
  intro K3 hK3
  refine wp_region_sq [0, 1, 2, 3] (by kernel_rfl) ?_
  refine wpSq_call rfl (by kernel_rfl) fun K hK => ?_
  go_big_op; refine hK _ _ rfl ?_; clear hK K
  refine wpSq_call rfl (by kernel_rfl) fun K hK => ?_
  obtain ⟨d0, d1, d2, d3⟩ := x_b1.f4
  go_big_op; refine hK _ _ rfl ?_; clear hK K d0 d1 d2 d3
  refine wpSq_call rfl (by kernel_rfl) fun K hK => ?_
  go_big_op
  go_fit (zsign_any ha2 (by omega) )
  rintro e w_2 ⟨rfl, hb_2⟩
  replace ha1 := ha1.bl hb_2; replace ha2 := ha2.bl hb_2; replace x_b1 := x_b1.bl hb_2; replace hb := hb.trans (hb_2.mono hb.size)
  rw [HY.out]
  refine hK _ _ rfl ?_
  clear hK K hb_2
  refine wpSq_call rfl (by kernel_rfl) fun K hK => ?_
  go_big_op; refine hK _ _ rfl ?_; clear hK K
  apply wpSq_end
  refine hK3 _ _ ?_
  refine wp_cond_false (congrArg Value.bool (show _ = false from (by first | rfl | assumption | (simp; done) | exact decide_eq_false (by omega) | omega))) ?_
  refine wp_skip ?_
  refine hK2 _ _ ?_
  refine wp_seq_k ?_
  intro K4 hK4
  refine wp_region_sq [0, 1, 2] (by kernel_rfl) ?_
  refine wpSq_call rfl (by kernel_rfl) fun K hK => ?_
  go_big_move; refine hK _ _ rfl ?_; clear hK K
  refine wpSq_call rfl (by kernel_rfl) fun K hK => ?_
  go_big_move; refine hK _ _ rfl ?_; clear hK K
  refine wpSq_call rfl (by kernel_rfl) fun K hK => ?_
  go_big_move; refine hK _ _ rfl ?_; clear hK K
  apply wpSq_end
  refine hK4 _ _ ?_
  refine wp_seq_k ?_
  intro K5 hK5
  refine wp_seq_k ?_
  intro K6 hK6
  refine wp_region_sq [0, 1, 2, 3] (by kernel_rfl) ?_
  refine wpSq_call rfl (by kernel_rfl) fun K hK => ?_
  go_big_op; refine hK _ _ rfl ?_; clear hK K
  refine wpSq_call rfl (by kernel_rfl) fun K hK => ?_
  obtain ⟨d0, d1, d2, d3⟩ := x_b1.f4
  go_big_op; refine hK _ _ rfl ?_; clear hK K d0 d1 d2 d3
  refine wpSq_call rfl (by kernel_rfl) fun K hK => ?_
  go_big_op
  go_fit (zsign_any ha1 (by omega) )
  rintro e w_3 ⟨rfl, hb_3⟩
  replace ha1 := ha1.bl hb_3; replace ha2 := ha2.bl hb_3; replace x_b1 := x_b1.bl hb_3; replace hb := hb.trans (hb_3.mono hb.size)
  refine hK _ _ rfl ?_
  clear hK K hb_3
  refine wpSq_call rfl (by kernel_rfl) fun K hK => ?_
  go_big_op; refine hK _ _ rfl ?_; clear hK K
  apply wpSq_end
  refine hK6 _ _ ?_
  refine wp_cond_false (congrArg Value.bool (show _ = false from (by first | rfl | assumption | (simp; done) | exact decide_eq_false (by omega) | omega))) ?_
  refine wp_skip ?_
  refine hK5 _ _ ?_
  refine wp_seq_k ?_
  intro K7 hK7
  refine wp_seq_k ?_
  intro K8 hK8
  refine wp_region_sq [0, 1, 2, 3] (by kernel_rfl) ?_
  refine wpSq_call rfl (by kernel_rfl) fun K hK => ?_
  go_big_op; refine hK _ _ rfl ?_; clear hK K
  refine wpSq_call rfl (by kernel_rfl) fun K hK => ?_
  obtain ⟨d0, d1, d2, d3⟩ := x_b1.f4
  go_big_op; refine hK _ _ rfl ?_; clear hK K d0 d1 d2 d3
  refine wpSq_call rfl (by kernel_rfl) fun K hK => ?_
  go_big_op
  go_fit (zsign_any ha2 (by omega) )
  rintro e w_4 ⟨rfl, hb_4⟩
  replace ha1 := ha1.bl hb_4; replace ha2 := ha2.bl hb_4; replace x_b1 := x_b1.bl hb_4; replace hb := hb.trans (hb_4.mono hb.size)
  rw [HY.out]
  refine hK _ _ rfl ?_
  clear hK K hb_4
  refine wpSq_call rfl (by kernel_rfl) fun K hK => ?_
  go_big_op; refine hK _ _ rfl ?_; clear hK K
  apply wpSq_end
  refine hK8 _ _ ?_
  refine wp_cond_false (congrArg Value.bool (show _ = false from (by first | rfl | assumption | (simp; done) | exact decide_eq_false (by omega) | omega))) ?_
  refine wp_skip ?_
  refine hK7 _ _ ?_
  refine wp_seq_k ?_
  intro K9 hK9
  refine wp_seq_k ?_
  intro K10 hK10
  refine wp_region_sq [0, 1, 2, 3] (by kernel_rfl) ?_
  refine wpSq_call rfl (by kernel_rfl) fun K hK => ?_
  go_big_op; refine hK _ _ rfl ?_; clear hK K
  refine wpSq_call rfl (by kernel_rfl) fun K hK => ?_
  obtain ⟨d0, d1, d2, d3⟩ := x_b1.f4
  go_big_op; refine hK _ _ rfl ?_; clear hK K d0 d1 d2 d3
  refine wpSq_call rfl (by kernel_rfl) fun K hK => ?_
  go_big_op
  go_fit (zbits_any ha2 (by omega) )
  rintro e w_5 ⟨rfl, hb_5⟩
  replace ha1 := ha1.bl hb_5; replace ha2 := ha2.bl hb_5; replace x_b1 := x_b1.bl hb_5; replace hb := hb.trans (hb_5.mono hb.size)
  rw [HB.out]
  refine hK _ _ rfl ?_
  clear hK K hb_5
  refine wpSq_call rfl (by kernel_rfl) fun K hK => ?_
  go_big_op; refine hK _ _ rfl ?_; clear hK K
  apply wpSq_end
  refine hK10 _ _ ?_
  refine wp_cond_true (congrArg Value.bool (show _ = true from (by first | rfl | assumption | (simp; done) | exact decide_eq_true (by omega) | omega))) ?_
  refine wp_region_sq [0, 1, 2, 3, 4] (by kernel_rfl) ?_
  refine wpSq_call rfl (by kernel_rfl) fun K hK => ?_
  go_big_op; refine hK _ _ rfl ?_; clear hK K
  refine wpSq_call rfl (by kernel_rfl) fun K hK => ?_
  obtain ⟨d0, d1, d2, d3⟩ := x_b1.f4
  go_big_op; refine hK _ _ rfl ?_; clear hK K d0 d1 d2 d3
  refine wpSq_call rfl (by kernel_rfl) fun K hK => ?_
  go_big_op
  go_fit (zabs_any ha2 (by omega) )
  rintro e w_6 ⟨v_g, rfl, g, hb_6⟩
  clear ha1 x_b1
  replace ha2 := ha2.bl hb_6; replace hb := hb.trans (hb_6.mono hb.size)
  replace g := g.rd
  obtain ⟨n_g, o_g, k_g, c_g, rfl⟩ := g.open2
  have Lg := hide (g.lenOf (zlen_abs (ha2.len)))
  refine hK _ _ rfl ?_
  clear hK K hb_6
  refine wpSq_call rfl (by kernel_rfl) fun K hK => ?_
  go_big_op
  go_fit (ztext_s (g.zn Lg.out) (by omega) (htabs _ hb))
  rintro e w_7 ⟨rfl, hb_7⟩
  clear ha2
  replace g := g.bl hb_7; replace hb := hb.trans (hb_7.mono hb.size)
  rw [HT.out]
  refine hK _ _ rfl ?_
  clear hK K hb_7
  refine wpSq_call rfl (by kernel_rfl) fun K hK => ?_
  go_big_move; refine hK _ _ rfl ?_; clear hK K
  apply wpSq_end
  refine hK9 _ _ ?_
  refine wp_seq_k ?_
  intro K11 hK11
  refine wp_region_sq [0, 1, 2, 3, 4, 5, 6] (by kernel_rfl) ?_
  refine wpSq_call rfl (by kernel_rfl) fun K hK => ?_
  go_big_move; refine hK _ _ rfl ?_; clear hK K
  refine wpSq_call rfl (by kernel_rfl) fun K hK => ?_
  go_big_move; refine hK _ _ rfl ?_; clear hK K
  refine wpSq_call rfl (by kernel_rfl) fun K hK => ?_
  go_big_op; refine hK _ _ rfl ?_; clear hK K
  refine wpSq_call rfl (by kernel_rfl) fun K hK => ?_
  go_big_move; refine hK _ _ rfl ?_; clear hK K
  refine wpSq_call rfl (by kernel_rfl) fun K hK => ?_
  go_big_op; refine hK _ _ rfl ?_; clear hK K
  refine wpSq_call rfl (by kernel_rfl) fun K hK => ?_
  go_big_op; refine hK _ _ rfl ?_; clear hK K
  refine wpSq_call rfl (by kernel_rfl) fun K hK => ?_
  go_big_move; refine hK _ _ rfl ?_; clear hK K
  apply wpSq_end
  refine hK11 _ _ ?_
  refine wp_ret ?_
  try dsimp only [Exit.then, Exit.inBlock]
  refine bodyPost_ret (v := (.string ((⟨#[]⟩ : ByteArray) ++ ⟨#[]⟩ ++ T ++ ⟨#[105]⟩))) (by simp [results, Tryz.results19, go_sem]) rfl ?_
  exact ⟨rfl, hb⟩
set_option maxHeartbeats 4000000 in
set_option maxRecDepth 20000 in
theorem gText_nmo {S T : ByteArray} (ha : PN w va x l y m) (hl : l ≤ 10000000) (hm : m ≤ 10000000) (hx : x ≠ 0) (hy : y < 0) (hA : bitsN y.natAbs ≤ 1) (hS : zts x = S) (hT : zts (y.natAbs : Int) = T) (hs : S.size ≤ 10 * l + 11) (ht : T.size ≤ 10 * m + 11) (htab : Lib.TabIs Tryz.prog w p10 .u64 Lib.pow10Tab) :
    Calls Tryz.prog 19 #[va] w fun e w' => e = .returned (.string (S ++ ⟨#[45]⟩ ++ ⟨#[]⟩ ++ ⟨#[105]⟩)) ∧ Below w.heap.size w w' := by
  have htabs := Lib.tabBelow_of_tabIs htab
  have HS := hide hS
  have HT := hide hT
  have HY := hide (show y.sign = -1 from Int.sign_eq_neg_one_of_neg hy)
  have hx0 : (x.sign == 0) = false := by simpa using hx
  obtain ⟨G, hG⟩ : ∃ G, x.sign = G := ⟨_, rfl⟩
  rw [hG] at hx0
  have HG := hide hG
  clear hx hG
  obtain ⟨B, hB⟩ : ∃ B, bitsN y.natAbs = B := ⟨_, rfl⟩
  rw [hB] at hA
  have HB := hide hB
  clear hB hS hT hy
  obtain ⟨n_0a, o_0a, k_0a, c_0a, n_0b, o_0b, k_0b, c_0b, rfl, ha1, ha2⟩ := ha
  go_enter Tryz.func19, Tryz.ntmps19
  have hb := Below.refl w.heap.size w
  refine wp_seq_k ?_
  intro K1 hK1
  refine wp_region_sq [0, 1] (by kernel_rfl) ?_
  refine wpSq_call rfl (by kernel_rfl) fun K hK => ?_
  go_big_op
  obtain ⟨p_b1, w_1, eP, eW, x_b1, hn, kb_b1⟩ := newBox w #[.bool n_0a, .slice o_0a k_0a c_0a, .bool n_0b, .slice o_0b k_0b c_0b] 29 hb.size
  rw [eW, eP]
  clear eW eP
  replace ha1 := ha1.bl hn; replace ha2 := ha2.bl hn; replace hb := hb.trans (hn.mono hb.size)
  refine hK _ _ rfl ?_; clear hK K hn
  refine wpSq_call rfl (by kernel_rfl) fun K hK => ?_
  go_big_move; refine hK _ _ rfl ?_; clear hK K
  apply wpSq_end
  refine hK1 _ _ ?_
  refine wp_seq_k ?_
  intro K2 hK2
  refine wp_seq_k ?_
  intro K3 hK3
  refine wp_region_sq [0, 1, 2, 3] (by kernel_rfl) ?_
  refine wpSq_call rfl (by kernel_rfl) fun K hK => ?_
  go_big_op; refine hK _ _ rfl ?_; clear hK K
  refine wpSq_call rfl (by kernel_rfl) fun K hK => ?_
  obtain ⟨d0, d1, d2, d3⟩ := x_b1.f4
  go_big_op; refine hK _ _ rfl ?_; clear hK K d0 d1 d2 d3
  refine wpSq_call rfl (by kernel_rfl) fun K hK => ?_
  go_big_op
  go_fit (zsign_any ha2 (by omega) )
  rintro e w_2 ⟨rfl, hb_2⟩
  replace ha1 := ha1.bl hb_2; replace ha2 := ha2.bl hb_2; replace x_b1 := x_b1.bl hb_2; replace hb := hb.trans (hb_2.mono hb.size)
  rw [HY.out]
  refine hK _ _ rfl ?_
  clear hK K hb_2
  refine wpSq_call rfl (by kernel_rfl) fun K hK => ?_
  go_big_op; refine hK _ _ rfl ?_; clear hK K
  apply wpSq_end
  refine hK3 _ _ ?_
  refine wp_cond_false (congrArg Value.bool (show _ = false from (by first | rfl | assumption | (simp; done) | exact decide_eq_false (by omega) | omega))) ?_
  refine wp_skip ?_
  refine hK2 _ _ ?_
  refine wp_seq_k ?_
  intro K4 hK4
  refine wp_region_sq [0, 1, 2] (by kernel_rfl) ?_
  refine wpSq_call rfl (by kernel_rfl) fun K hK => ?_
  go_big_move; refine hK _ _ rfl ?_; clear hK K
  refine wpSq_call rfl (by kernel_rfl) fun K hK => ?_
  go_big_move; refine hK _ _ rfl ?_; clear hK K
  refine wpSq_call rfl (by kernel_rfl) fun K hK => ?_
  go_big_move; refine hK _ _ rfl ?_; clear hK K
  apply wpSq_end
  refine hK4 _ _ ?_
  refine wp_seq_k ?_
  intro K5 hK5
  refine wp_seq_k ?_
  intro K6 hK6
  refine wp_region_sq [0, 1, 2, 3] (by kernel_rfl) ?_
  refine wpSq_call rfl (by kernel_rfl) fun K hK => ?_
  go_big_op; refine hK _ _ rfl ?_; clear hK K
  refine wpSq_call rfl (by kernel_rfl) fun K hK => ?_
  obtain ⟨d0, d1, d2, d3⟩ := x_b1.f4
  go_big_op; refine hK _ _ rfl ?_; clear hK K d0 d1 d2 d3
  refine wpSq_call rfl (by kernel_rfl) fun K hK => ?_
  go_big_op
  go_fit (zsign_any ha1 (by omega) )
  rintro e w_3 ⟨rfl, hb_3⟩
  replace ha1 := ha1.bl hb_3; replace ha2 := ha2.bl hb_3; replace x_b1 := x_b1.bl hb_3; replace hb := hb.trans (hb_3.mono hb.size)
  rw [HG.out]
  refine hK _ _ rfl ?_
  clear hK K hb_3
  refine wpSq_call rfl (by kernel_rfl) fun K hK => ?_
  go_big_op; refine hK _ _ rfl ?_; clear hK K
  apply wpSq_end
  refine hK6 _ _ ?_
  refine wp_cond_true (congrArg Value.bool (show _ = true from (by simpa using hx0))) ?_
  refine wp_region_sq [0, 1, 2, 3, 4] (by kernel_rfl) ?_
  refine wpSq_call rfl (by kernel_rfl) fun K hK => ?_
  go_big_op; refine hK _ _ rfl ?_; clear hK K
  refine wpSq_call rfl (by kernel_rfl) fun K hK => ?_
  obtain ⟨d0, d1, d2, d3⟩ := x_b1.f4
  go_big_op; refine hK _ _ rfl ?_; clear hK K d0 d1 d2 d3
  refine wpSq_call rfl (by kernel_rfl) fun K hK => ?_
  go_big_op
  go_fit (ztext_s ha1 (by omega) (htabs _ hb))
  rintro e w_4 ⟨rfl, hb_4⟩
  replace ha1 := ha1.bl hb_4; replace ha2 := ha2.bl hb_4; replace x_b1 := x_b1.bl hb_4; replace hb := hb.trans (hb_4.mono hb.size)
  rw [HS.out]
  refine hK _ _ rfl ?_
  clear hK K hb_4
  refine wpSq_call rfl (by kernel_rfl) fun K hK => ?_
  go_big_move; refine hK _ _ rfl ?_; clear hK K
  refine wpSq_call rfl (by kernel_rfl) fun K hK => ?_
  go_big_move; refine hK _ _ rfl ?_; clear hK K
  apply wpSq_end
  refine hK5 _ _ ?_
  refine wp_seq_k ?_
  intro K7 hK7
  refine wp_seq_k ?_
  intro K8 hK8
  refine wp_region_sq [0, 1, 2, 3] (by kernel_rfl) ?_
  refine wpSq_call rfl (by kernel_rfl) fun K hK => ?_
  go_big_op; refine hK _ _ rfl ?_; clear hK K
  refine wpSq_call rfl (by kernel_rfl) fun K hK => ?_
  obtain ⟨d0, d1, d2, d3⟩ := x_b1.f4
  go_big_op; refine hK _ _ rfl ?_; clear hK K d0 d1 d2 d3
  refine wpSq_call rfl (by kernel_rfl) fun K hK => ?_
  go_big_op
  go_fit (zsign_any ha2 (by omega) )
  rintro e w_5 ⟨rfl, hb_5⟩
  replace ha1 := ha1.bl hb_5; replace ha2 := ha2.bl hb_5; replace x_b1 := x_b1.bl hb_5; replace hb := hb.trans (hb_5.mono hb.size)
  rw [HY.out]
  refine hK _ _ rfl ?_
  clear hK K hb_5
  refine wpSq_call rfl (by kernel_rfl) fun K hK => ?_
  go_big_op; refine hK _ _ rfl ?_; clear hK K
  apply wpSq_end
  refine hK8 _ _ ?_
  refine wp_cond_true (congrArg Value.bool (show _ = true from (by first | rfl | assumption | (simp; done) | exact decide_eq_true (by omega) | omega))) ?_
  refine wp_region_sq [0] (by kernel_rfl) ?_
  refine wpSq_call rfl (by kernel_rfl) fun K hK => ?_
  go_big_move; refine hK _ _ rfl ?_; clear hK K
  apply wpSq_end
  refine hK7 _ _ ?_
  refine wp_seq_k ?_
  intro K9 hK9
  refine wp_seq_k ?_
  intro K10 hK10
  refine wp_region_sq [0, 1, 2, 3] (by kernel_rfl) ?_
  refine wpSq_call rfl (by kernel_rfl) fun K hK => ?_
  go_big_op; refine hK _ _ rfl ?_; clear hK K
  refine wpSq_call rfl (by kernel_rfl) fun K hK => ?_
  obtain ⟨d0, d1, d2, d3⟩ := x_b1.f4
  go_big_op; refine hK _ _ rfl ?_; clear hK K d0 d1 d2 d3
  refine wpSq_call rfl (by kernel_rfl) fun K hK => ?_
  go_big_op
  go_fit (zbits_any ha2 (by omega) )
  rintro e w_6 ⟨rfl, hb_6⟩
  replace ha1 := ha1.bl hb_6; replace ha2 := ha2.bl hb_6; replace x_b1 := x_b1.bl hb_6; replace hb := hb.trans (hb_6.mono hb.size)
  rw [HB.out]
  refine hK _ _ rfl ?_
  clear hK K hb_6
  refine wpSq_call rfl (by kernel_rfl) fun K hK => ?_
  go_big_op; refine hK _ _ rfl ?_; clear hK K
  apply wpSq_end
  refine hK10 _ _ ?_
  refine wp_cond_false (congrArg Value.bool (show _ = false from (by first | rfl | assumption | (simp; done) | exact decide_eq_false (by omega) | omega))) ?_
  refine wp_skip ?_
  refine hK9 _ _ ?_
  refine wp_seq_k ?_
  intro K11 hK11
  refine wp_region_sq [0, 1, 2, 3, 4, 5, 6] (by kernel_rfl) ?_
  refine wpSq_call rfl (by kernel_rfl) fun K hK => ?_
  go_big_move; refine hK _ _ rfl ?_; clear hK K
  refine wpSq_call rfl (by kernel_rfl) fun K hK => ?_
  go_big_move; refine hK _ _ rfl ?_; clear hK K
  refine wpSq_call rfl (by kernel_rfl) fun K hK => ?_
  go_big_op; refine hK _ _ rfl ?_; clear hK K
  refine wpSq_call rfl (by kernel_rfl) fun K hK => ?_
  go_big_move; refine hK _ _ rfl ?_; clear hK K
  refine wpSq_call rfl (by kernel_rfl) fun K hK => ?_
  go_big_op; refine hK _ _ rfl ?_; clear hK K
  refine wpSq_call rfl (by kernel_rfl) fun K hK => ?_
  go_big_op; refine hK _ _ rfl ?_; clear hK K
  refine wpSq_call rfl (by kernel_rfl) fun K hK => ?_
  go_big_move; refine hK _ _ rfl ?_; clear hK K
  apply wpSq_end
  refine hK11 _ _ ?_
  refine wp_ret ?_
  try dsimp only [Exit.then, Exit.inBlock]
  refine bodyPost_ret (v := (.string (S ++ ⟨#[45]⟩ ++ ⟨#[]⟩ ++ ⟨#[105]⟩))) (by simp [results, Tryz.results19, go_sem]) rfl ?_
  exact ⟨rfl, hb⟩
set_option maxHeartbeats 4000000 in
set_option maxRecDepth 20000 in
theorem gText_nmb {S T : ByteArray} (ha : PN w va x l y m) (hl : l ≤ 10000000) (hm : m ≤ 10000000) (hx : x ≠ 0) (hy : y < 0) (hA : 1 < bitsN y.natAbs) (hS : zts x = S) (hT : zts (y.natAbs : Int) = T) (hs : S.size ≤ 10 * l + 11) (ht : T.size ≤ 10 * m + 11) (htab : Lib.TabIs Tryz.prog w p10 .u64 Lib.pow10Tab) :
    Calls Tryz.prog 19 #[va] w fun e w' => e = .returned (.string (S ++ ⟨#[45]⟩ ++ T ++ ⟨#[105]⟩)) ∧ Below w.heap.size w w' := by
  have htabs := Lib.tabBelow_of_tabIs htab
  have HS := hide hS
  have HT := hide hT
  have HY := hide (show y.sign = -1 from Int.sign_eq_neg_one_of_neg hy)
  have hx0 : (x.sign == 0) = false := by simpa using hx
  obtain ⟨G, hG⟩ : ∃ G, x.sign = G := ⟨_, rfl⟩
  rw [hG] at hx0
  have HG := hide hG
  clear hx hG
  obtain ⟨B, hB⟩ : ∃ B, bitsN y.natAbs = B := ⟨_, rfl⟩
  rw [hB] at hA
  have HB := hide hB
  clear hB hS hT hy
  obtain ⟨n_0a, o_0a, k_0a, c_0a, n_0b, o_0b, k_0b, c_0b, rfl, ha1, ha2⟩ := ha
  go_enter Tryz.func19, Tryz.ntmps19
  have hb := Below.refl w.heap.size w
  refine wp_seq_k ?_
  intro K1 hK1
  refine wp_region_sq [0, 1] (by kernel_rfl) ?_
  refine wpSq_call rfl (by kernel_rfl) fun K hK => ?_
  go_big_op
  obtain ⟨p_b1, w_1, eP, eW, x_b1, hn, kb_b1⟩ := newBox w #[.bool n_0a, .slice o_0a k_0a c_0a, .bool n_0b, .slice o_0b k_0b c_0b] 29 hb.size
  rw [eW, eP]
  clear eW eP
  replace ha1 := ha1.bl hn; replace ha2 := ha2.bl hn; replace hb := hb.trans (hn.mono hb.size)
  refine hK _ _ rfl ?_; clear hK K hn
  refine wpSq_call rfl (by kernel_rfl) fun K hK => ?_
  go_big_move; refine hK _ _ rfl ?_; clear hK K
  apply wpSq_end
  refine hK1 _ _ ?_
  refine wp_seq_k ?_
  intro K2 hK2
  refine wp_seq_k ?_
  intro K3 hK3
  refine wp_region_sq [0, 1, 2, 3] (by kernel_rfl) ?_
  refine wpSq_call rfl (by kernel_rfl) fun K hK => ?_
  go_big_op; refine hK _ _ rfl ?_; clear hK K
  refine wpSq_call rfl (by kernel_rfl) fun K hK => ?_
  obtain ⟨d0, d1, d2, d3⟩ := x_b1.f4
  go_big_op; refine hK _ _ rfl ?_; clear hK K d0 d1 d2 d3
  refine wpSq_call rfl (by kernel_rfl) fun K hK => ?_
  go_big_op
  go_fit (zsign_any ha2 (by omega) )
  rintro e w_2 ⟨rfl, hb_2⟩
  replace ha1 := ha1.bl hb_2; replace ha2 := ha2.bl hb_2; replace x_b1 := x_b1.bl hb_2; replace hb := hb.trans (hb_2.mono hb.size)
  rw [HY.out]
  refine hK _ _ rfl ?_
  clear hK K hb_2
  refine wpSq_call rfl (by kernel_rfl) fun K hK => ?_
  go_big_op; refine hK _ _ rfl ?_; clear hK K
  apply wpSq_end
  refine hK3 _ _ ?_
  refine wp_cond_false (congrArg Value.bool (show _ = false from (by first | rfl | assumption | (simp; done) | exact decide_eq_false (by omega) | omega))) ?_
  refine wp_skip ?_
  refine hK2 _ _ ?_
  refine wp_seq_k ?_
  intro K4 hK4
  refine wp_region_sq [0, 1, 2] (by kernel_rfl) ?_
  refine wpSq_call rfl (by kernel_rfl) fun K hK => ?_
  go_big_move; refine hK _ _ rfl ?_; clear hK K
  refine wpSq_call rfl (by kernel_rfl) fun K hK => ?_
  go_big_move; refine hK _ _ rfl ?_; clear hK K
  refine wpSq_call rfl (by kernel_rfl) fun K hK => ?_
  go_big_move; refine hK _ _ rfl ?_; clear hK K
  apply wpSq_end
  refine hK4 _ _ ?_
  refine wp_seq_k ?_
  intro K5 hK5
  refine wp_seq_k ?_
  intro K6 hK6
  refine wp_region_sq [0, 1, 2, 3] (by kernel_rfl) ?_
  refine wpSq_call rfl (by kernel_rfl) fun K hK => ?_
  go_big_op; refine hK _ _ rfl ?_; clear hK K
  refine wpSq_call rfl (by kernel_rfl) fun K hK => ?_
  obtain ⟨d0, d1, d2, d3⟩ := x_b1.f4
  go_big_op; refine hK _ _ rfl ?_; clear hK K d0 d1 d2 d3
  refine wpSq_call rfl (by kernel_rfl) fun K hK => ?_
  go_big_op
  go_fit (zsign_any ha1 (by omega) )
  rintro e w_3 ⟨rfl, hb_3⟩
  replace ha1 := ha1.bl hb_3; replace ha2 := ha2.bl hb_3; replace x_b1 := x_b1.bl hb_3; replace hb := hb.trans (hb_3.mono hb.size)
  rw [HG.out]
  refine hK _ _ rfl ?_
  clear hK K hb_3
  refine wpSq_call rfl (by kernel_rfl) fun K hK => ?_
  go_big_op; refine hK _ _ rfl ?_; clear hK K
  apply wpSq_end
  refine hK6 _ _ ?_
  refine wp_cond_true (congrArg Value.bool (show _ = true from (by simpa using hx0))) ?_
  refine wp_region_sq [0, 1, 2, 3, 4] (by kernel_rfl) ?_
  refine wpSq_call rfl (by kernel_rfl) fun K hK => ?_
  go_big_op; refine hK _ _ rfl ?_; clear hK K
  refine wpSq_call rfl (by kernel_rfl) fun K hK => ?_
  obtain ⟨d0, d1, d2, d3⟩ := x_b1.f4
  go_big_op; refine hK _ _ rfl ?_; clear hK K d0 d1 d2 d3
  refine wpSq_call rfl (by kernel_rfl) fun K hK => ?_
  go_big_op
  go_fit (ztext_s ha1 (by omega) (htabs _ hb))
  rintro e w_4 ⟨rfl, hb_4⟩
  replace ha1 := ha1.bl hb_4; replace ha2 := ha2.bl hb_4; replace x_b1 := x_b1.bl hb_4; replace hb := hb.trans (hb_4.mono hb.size)
  rw [HS.out]
  refine hK _ _ rfl ?_
  clear hK K hb_4
  refine wpSq_call rfl (by kernel_rfl) fun K hK => ?_
  go_big_move; refine hK _ _ rfl ?_; clear hK K
  refine wpSq_call rfl (by kernel_rfl) fun K hK => ?_
  go_big_move; refine hK _ _ rfl ?_; clear hK K
  apply wpSq_end
  refine hK5 _ _ ?_
  refine wp_seq_k ?_
  intro K7 hK7
  refine wp_seq_k ?_
  intro K8 hK8
  refine wp_region_sq [0, 1, 2, 3] (by kernel_rfl) ?_
  refine wpSq_call rfl (by kernel_rfl) fun K hK => ?_
  go_big_op; refine hK _ _ rfl ?_; clear hK K
  refine wpSq_call rfl (by kernel_rfl) fun K hK => ?_
  obtain ⟨d0, d1, d2, d3⟩ := x_b1.f4
  go_big_op; refine hK _ _ rfl ?_; clear hK K d0 d1 d2 d3
  refine wpSq_call rfl (by kernel_rfl) fun K hK => ?_
  go_big_op
  go_fit (zsign_any ha2 (by omega) )
  rintro e w_5 ⟨rfl, hb_5⟩
  replace ha1 := ha1.bl hb_5; replace ha2 := ha2.bl hb_5; replace x_b1 := x_b1.bl hb_5; replace hb := hb.trans (hb_5.mono hb.size)
  rw [HY.out]
  refine hK _ _ rfl ?_
  clear hK K hb_5
  refine wpSq_call rfl (by kernel_rfl) fun K hK => ?_
  go_big_op; refine hK _ _ rfl ?_; clear hK K
  apply wpSq_end
  refine hK8 _ _ ?_
  refine wp_cond_true (congrArg Value.bool (show _ = true from (by first | rfl | assumption | (simp; done) | exact decide_eq_true (by omega) | omega))) ?_
  refine wp_region_sq [0] (by kernel_rfl) ?_
  refine wpSq_call rfl (by kernel_rfl) fun K hK => ?_
  go_big_move; refine hK _ _ rfl ?_; clear hK K
  apply wpSq_end
  refine hK7 _ _ ?_
  refine wp_seq_k ?_
  intro K9 hK9
  refine wp_seq_k ?_
  intro K10 hK10
  refine wp_region_sq [0, 1, 2, 3] (by kernel_rfl) ?_
  refine wpSq_call rfl (by kernel_rfl) fun K hK => ?_
  go_big_op; refine hK _ _ rfl ?_; clear hK K
  refine wpSq_call rfl (by kernel_rfl) fun K hK => ?_
  obtain ⟨d0, d1, d2, d3⟩ := x_b1.f4
  go_big_op; refine hK _ _ rfl ?_; clear hK K d0 d1 d2 d3
  refine wpSq_call rfl (by kernel_rfl) fun K hK => ?_
  go_big_op
  go_fit (zbits_any ha2 (by omega) )
  rintro e w_6 ⟨rfl, hb_6⟩
  replace ha1 := ha1.bl hb_6; replace ha2 := ha2.bl hb_6; replace x_b1 := x_b1.bl hb_6; replace hb := hb.trans (hb_6.mono hb.size)
  rw [HB.out]
  refine hK _ _ rfl ?_
  clear hK K hb_6
  refine wpSq_call rfl (by kernel_rfl) fun K hK => ?_
  go_big_op; refine hK _ _ rfl ?_; clear hK K
  apply wpSq_end
  refine hK10 _ _ ?_
  refine wp_cond_true (congrArg Value.bool (show _ = true from (by first | rfl | assumption | (simp; done) | exact decide_eq_true (by omega) | omega))) ?_
  refine wp_region_sq [0, 1, 2, 3, 4] (by kernel_rfl) ?_
  refine wpSq_call rfl (by kernel_rfl) fun K hK => ?_
  go_big_op; refine hK _ _ rfl ?_; clear hK K
  refine wpSq_call rfl (by kernel_rfl) fun K hK => ?_
  obtain ⟨d0, d1, d2, d3⟩ := x_b1.f4
  go_big_op; refine hK _ _ rfl ?_; clear hK K d0 d1 d2 d3
  refine wpSq_call rfl (by kernel_rfl) fun K hK => ?_
  go_big_op
  go_fit (zabs_any ha2 (by omega) )
  rintro e w_7 ⟨v_g, rfl, g, hb_7⟩
  clear ha1 x_b1
  replace ha2 := ha2.bl hb_7; replace hb := hb.trans (hb_7.mono hb.size)
  replace g := g.rd
  obtain ⟨n_g, o_g, k_g, c_g, rfl⟩ := g.open2
  have Lg := hide (g.lenOf (zlen_abs (ha2.len)))
  refine hK _ _ rfl ?_
  clear hK K hb_7
  refine wpSq_call rfl (by kernel_rfl) fun K hK => ?_
  go_big_op
  go_fit (ztext_s (g.zn Lg.out) (by omega) (htabs _ hb))
  rintro e w_8 ⟨rfl, hb_8⟩
  clear ha2
  replace g := g.bl hb_8; replace hb := hb.trans (hb_8.mono hb.size)
  rw [HT.out]
  refine hK _ _ rfl ?_
  clear hK K hb_8
  refine wpSq_call rfl (by kernel_rfl) fun K hK => ?_
  go_big_move; refine hK _ _ rfl ?_; clear hK K
  apply wpSq_end
  refine hK9 _ _ ?_
  refine wp_seq_k ?_
  intro K11 hK11
  refine wp_region_sq [0, 1, 2, 3, 4, 5, 6] (by kernel_rfl) ?_
  refine wpSq_call rfl (by kernel_rfl) fun K hK => ?_
  go_big_move; refine hK _ _ rfl ?_; clear hK K
  refine wpSq_call rfl (by kernel_rfl) fun K hK => ?_
  go_big_move; refine hK _ _ rfl ?_; clear hK K
  refine wpSq_call rfl (by kernel_rfl) fun K hK => ?_
  go_big_op; refine hK _ _ rfl ?_; clear hK K
  refine wpSq_call rfl (by kernel_rfl) fun K hK => ?_
  go_big_move; refine hK _ _ rfl ?_; clear hK K
  refine wpSq_call rfl (by kernel_rfl) fun K hK => ?_
  go_big_op; refine hK _ _ rfl ?_; clear hK K
  refine wpSq_call rfl (by kernel_rfl) fun K hK => ?_
  go_big_op; refine hK _ _ rfl ?_; clear hK K
  refine wpSq_call rfl (by kernel_rfl) fun K hK => ?_
  go_big_move; refine hK _ _ rfl ?_; clear hK K
  apply wpSq_end
  refine hK11 _ _ ?_
  refine wp_ret ?_
  try dsimp only [Exit.then, Exit.inBlock]
  refine bodyPost_ret (v := (.string (S ++ ⟨#[45]⟩ ++ T ++ ⟨#[105]⟩))) (by simp [results, Tryz.results19, go_sem]) rfl ?_
  exact ⟨rfl, hb⟩
set_option maxHeartbeats 4000000 in
set_option maxRecDepth 20000 in
theorem gText_npo {S T : ByteArray} (ha : PN w va x l y m) (hl : l ≤ 10000000) (hm : m ≤ 10000000) (hx : x ≠ 0) (hy : 0 < y) (hA : bitsN y.natAbs ≤ 1) (hS : zts x = S) (hT : zts (y.natAbs : Int) = T) (hs : S.size ≤ 10 * l + 11) (ht : T.size ≤ 10 * m + 11) (htab : Lib.TabIs Tryz.prog w p10 .u64 Lib.pow10Tab) :
    Calls Tryz.prog 19 #[va] w fun e w' => e = .returned (.string (S ++ ⟨#[43]⟩ ++ ⟨#[]⟩ ++ ⟨#[105]⟩)) ∧ Below w.heap.size w w' := by
  have htabs := Lib.tabBelow_of_tabIs htab
  have HS := hide hS
  have HT := hide hT
  have HY := hide (show y.sign = 1 from Int.sign_eq_one_of_pos hy)
  have hx0 : (x.sign == 0) = false := by simpa using hx
  obtain ⟨G, hG⟩ : ∃ G, x.sign = G := ⟨_, rfl⟩
  rw [hG] at hx0
  have HG := hide hG
  clear hx hG
  obtain ⟨B, hB⟩ : ∃ B, bitsN y.natAbs = B := ⟨_, rfl⟩
  rw [hB] at hA
  have HB := hide hB
  clear hB hS hT hy
  obtain ⟨n_0a, o_0a, k_0a, c_0a, n_0b, o_0b, k_0b, c_0b, rfl, ha1, ha2⟩ := ha
  go_enter Tryz.func19, Tryz.ntmps19
  have hb := Below.refl w.heap.size w
  refine wp_seq_k ?_
  intro K1 hK1
  refine wp_region_sq [0, 1] (by kernel_rfl) ?_
  refine wpSq_call rfl (by kernel_rfl) fun K hK => ?_
  go_big_op
  obtain ⟨p_b1, w_1, eP, eW, x_b1, hn, kb_b1⟩ := newBox w #[.bool n_0a, .slice o_0a k_0a c_0a, .bool n_0b, .slice o_0b k_0b c_0b] 29 hb.size
  rw [eW, eP]
  clear eW eP
  replace ha1 := ha1.bl hn; replace ha2 := ha2.bl hn; replace hb := hb.trans (hn.mono hb.size)
  refine hK _ _ rfl ?_; clear hK K hn
  refine wpSq_call rfl (by kernel_rfl) fun K hK => ?_
  go_big_move; refine hK _ _ rfl ?_; clear hK K
  apply wpSq_end
  refine hK1 _ _ ?_
  refine wp_seq_k ?_
  intro K2 hK2
  refine wp_seq_k ?_
  intro K3 hK3
  refine wp_region_sq [0, 1, 2, 3] (by kernel_rfl) ?_
  refine wpSq_call rfl (by kernel_rfl) fun K hK => ?_
  go_big_op; refine hK _ _ rfl ?_; clear hK K
  refine wpSq_call rfl (by kernel_rfl) fun K hK => ?_
  obtain ⟨d0, d1, d2, d3⟩ := x_b1.f4
  go_big_op; refine hK _ _ rfl ?_; clear hK K d0 d1 d2 d3
  refine wpSq_call rfl (by kernel_rfl) fun K hK => ?_
  go_big_op
  go_fit (zsign_any ha2 (by omega) )
  rintro e w_2 ⟨rfl, hb_2⟩
  replace ha1 := ha1.bl hb_2; replace ha2 := ha2.bl hb_2; replace x_b1 := x_b1.bl hb_2; replace hb := hb.trans (hb_2.mono hb.size)
  rw [HY.out]
  refine hK _ _ rfl ?_
  clear hK K hb_2
  refine wpSq_call rfl (by kernel_rfl) fun K hK => ?_
  go_big_op; refine hK _ _ rfl ?_; clear hK K
  apply wpSq_end
  refine hK3 _ _ ?_
  refine wp_cond_false (congrArg Value.bool (show _ = false from (by first | rfl | assumption | (simp; done) | exact decide_eq_false (by omega) | omega))) ?_
  refine wp_skip ?_
  refine hK2 _ _ ?_
  refine wp_seq_k ?_
  intro K4 hK4
  refine wp_region_sq [0, 1, 2] (by kernel_rfl) ?_
  refine wpSq_call rfl (by kernel_rfl) fun K hK => ?_
  go_big_move; refine hK _ _ rfl ?_; clear hK K
  refine wpSq_call rfl (by kernel_rfl) fun K hK => ?_
  go_big_move; refine hK _ _ rfl ?_; clear hK K
  refine wpSq_call rfl (by kernel_rfl) fun K hK => ?_
  go_big_move; refine hK _ _ rfl ?_; clear hK K
  apply wpSq_end
  refine hK4 _ _ ?_
  refine wp_seq_k ?_
  intro K5 hK5
  refine wp_seq_k ?_
  intro K6 hK6
  refine wp_region_sq [0, 1, 2, 3] (by kernel_rfl) ?_
  refine wpSq_call rfl (by kernel_rfl) fun K hK => ?_
  go_big_op; refine hK _ _ rfl ?_; clear hK K
  refine wpSq_call rfl (by kernel_rfl) fun K hK => ?_
  obtain ⟨d0, d1, d2, d3⟩ := x_b1.f4
  go_big_op; refine hK _ _ rfl ?_; clear hK K d0 d1 d2 d3
  refine wpSq_call rfl (by kernel_rfl) fun K hK => ?_
  go_big_op
  go_fit (zsign_any ha1 (by omega) )
  rintro e w_3 ⟨rfl, hb_3⟩
  replace ha1 := ha1.bl hb_3; replace ha2 := ha2.bl hb_3; replace x_b1 := x_b1.bl hb_3; replace hb := hb.trans (hb_3.mono hb.size)
  rw [HG.out]
  refine hK _ _ rfl ?_
  clear hK K hb_3
  refine wpSq_call rfl (by kernel_rfl) fun K hK => ?_
  go_big_op; refine hK _ _ rfl ?_; clear hK K
  apply wpSq_end
  refine hK6 _ _ ?_
  refine wp_cond_true (congrArg Value.bool (show _ = true from (by simpa using hx0))) ?_
  refine wp_region_sq [0, 1, 2, 3, 4] (by kernel_rfl) ?_
  refine wpSq_call rfl (by kernel_rfl) fun K hK => ?_
  go_big_op; refine hK _ _ rfl ?_; clear hK K
  refine wpSq_call rfl (by kernel_rfl) fun K hK => ?_
  obtain ⟨d0, d1, d2, d3⟩ := x_b1.f4
  go_big_op; refine hK _ _ rfl ?_; clear hK K d0 d1 d2 d3
  refine wpSq_call rfl (by kernel_rfl) fun K hK => ?_
  go_big_op
  go_fit (ztext_s ha1 (by omega) (htabs _ hb))
  rintro e w_4 ⟨rfl, hb_4⟩
  replace ha1 := ha1.bl hb_4; replace ha2 := ha2.bl hb_4; replace x_b1 := x_b1.bl hb_4; replace hb := hb.trans (hb_4.mono hb.size)
  rw [HS.out]
  refine hK _ _ rfl ?_
  clear hK K hb_4
  refine wpSq_call rfl (by kernel_rfl) fun K hK => ?_
  go_big_move; refine hK _ _ rfl ?_; clear hK K
  refine wpSq_call rfl (by kernel_rfl) fun K hK => ?_
  go_big_move; refine hK _ _ rfl ?_; clear hK K
  apply wpSq_end
  refine hK5 _ _ ?_
  refine wp_seq_k ?_
  intro K7 hK7
  refine wp_seq_k ?_
  intro K8 hK8
  refine wp_region_sq [0, 1, 2, 3] (by kernel_rfl) ?_
  refine wpSq_call rfl (by kernel_rfl) fun K hK => ?_
  go_big_op; refine hK _ _ rfl ?_; clear hK K
  refine wpSq_call rfl (by kernel_rfl) fun K hK => ?_
  obtain ⟨d0, d1, d2, d3⟩ := x_b1.f4
  go_big_op; refine hK _ _ rfl ?_; clear hK K d0 d1 d2 d3
  refine wpSq_call rfl (by kernel_rfl) fun K hK => ?_
  go_big_op
  go_fit (zsign_any ha2 (by omega) )
  rintro e w_5 ⟨rfl, hb_5⟩
  replace ha1 := ha1.bl hb_5; replace ha2 := ha2.bl hb_5; replace x_b1 := x_b1.bl hb_5; replace hb := hb.trans (hb_5.mono hb.size)
  rw [HY.out]
  refine hK _ _ rfl ?_
  clear hK K hb_5
  refine wpSq_call rfl (by kernel_rfl) fun K hK => ?_
  go_big_op; refine hK _ _ rfl ?_; clear hK K
  apply wpSq_end
  refine hK8 _ _ ?_
  refine wp_cond_false (congrArg Value.bool (show _ = false from (by first | rfl | assumption | (simp; done) | exact decide_eq_false (by omega) | omega))) ?_
  refine wp_skip ?_
  refine hK7 _ _ ?_
  refine wp_seq_k ?_
  intro K9 hK9
  refine wp_seq_k ?_
  intro K10 hK10
  refine wp_region_sq [0, 1, 2, 3] (by kernel_rfl) ?_
  refine wpSq_call rfl (by kernel_rfl) fun K hK => ?_
  go_big_op; refine hK _ _ rfl ?_; clear hK K
  refine wpSq_call rfl (by kernel_rfl) fun K hK => ?_
  obtain ⟨d0, d1, d2, d3⟩ := x_b1.f4
  go_big_op; refine hK _ _ rfl ?_; clear hK K d0 d1 d2 d3
  refine wpSq_call rfl (by kernel_rfl) fun K hK => ?_
  go_big_op
  go_fit (zbits_any ha2 (by omega) )
  rintro e w_6 ⟨rfl, hb_6⟩
  replace ha1 := ha1.bl hb_6; replace ha2 := ha2.bl hb_6; replace x_b1 := x_b1.bl hb_6; replace hb := hb.trans (hb_6.mono hb.size)
  rw [HB.out]
  refine hK _ _ rfl ?_
  clear hK K hb_6
  refine wpSq_call rfl (by kernel_rfl) fun K hK => ?_
  go_big_op; refine hK _ _ rfl ?_; clear hK K
  apply wpSq_end
  refine hK10 _ _ ?_
  refine wp_cond_false (congrArg Value.bool (show _ = false from (by first | rfl | assumption | (simp; done) | exact decide_eq_false (by omega) | omega))) ?_
  refine wp_skip ?_
  refine hK9 _ _ ?_
  refine wp_seq_k ?_
  intro K11 hK11
  refine wp_region_sq [0, 1, 2, 3, 4, 5, 6] (by kernel_rfl) ?_
  refine wpSq_call rfl (by kernel_rfl) fun K hK => ?_
  go_big_move; refine hK _ _ rfl ?_; clear hK K
  refine wpSq_call rfl (by kernel_rfl) fun K hK => ?_
  go_big_move; refine hK _ _ rfl ?_; clear hK K
  refine wpSq_call rfl (by kernel_rfl) fun K hK => ?_
  go_big_op; refine hK _ _ rfl ?_; clear hK K
  refine wpSq_call rfl (by kernel_rfl) fun K hK => ?_
  go_big_move; refine hK _ _ rfl ?_; clear hK K
  refine wpSq_call rfl (by kernel_rfl) fun K hK => ?_
  go_big_op; refine hK _ _ rfl ?_; clear hK K
  refine wpSq_call rfl (by kernel_rfl) fun K hK => ?_
  go_big_op; refine hK _ _ rfl ?_; clear hK K
  refine wpSq_call rfl (by kernel_rfl) fun K hK => ?_
  go_big_move; refine hK _ _ rfl ?_; clear hK K
  apply wpSq_end
  refine hK11 _ _ ?_
  refine wp_ret ?_
  try dsimp only [Exit.then, Exit.inBlock]
  refine bodyPost_ret (v := (.string (S ++ ⟨#[43]⟩ ++ ⟨#[]⟩ ++ ⟨#[105]⟩))) (by simp [results, Tryz.results19, go_sem]) rfl ?_
  exact ⟨rfl, hb⟩
set_option maxHeartbeats 4000000 in
set_option maxRecDepth 20000 in
theorem gText_npb {S T : ByteArray} (ha : PN w va x l y m) (hl : l ≤ 10000000) (hm : m ≤ 10000000) (hx : x ≠ 0) (hy : 0 < y) (hA : 1 < bitsN y.natAbs) (hS : zts x = S) (hT : zts (y.natAbs : Int) = T) (hs : S.size ≤ 10 * l + 11) (ht : T.size ≤ 10 * m + 11) (htab : Lib.TabIs Tryz.prog w p10 .u64 Lib.pow10Tab) :
    Calls Tryz.prog 19 #[va] w fun e w' => e = .returned (.string (S ++ ⟨#[43]⟩ ++ T ++ ⟨#[105]⟩)) ∧ Below w.heap.size w w' := by
  have htabs := Lib.tabBelow_of_tabIs htab
  have HS := hide hS
  have HT := hide hT
  have HY := hide (show y.sign = 1 from Int.sign_eq_one_of_pos hy)
  have hx0 : (x.sign == 0) = false := by simpa using hx
  obtain ⟨G, hG⟩ : ∃ G, x.sign = G := ⟨_, rfl⟩
  rw [hG] at hx0
  have HG := hide hG
  clear hx hG
  obtain ⟨B, hB⟩ : ∃ B, bitsN y.natAbs = B := ⟨_, rfl⟩
  rw [hB] at hA
  have HB := hide hB
  clear hB hS hT hy
  obtain ⟨n_0a, o_0a, k_0a, c_0a, n_0b, o_0b, k_0b, c_0b, rfl, ha1, ha2⟩ := ha
  go_enter Tryz.func19, Tryz.ntmps19
  have hb := Below.refl w.heap.size w
  refine wp_seq_k ?_
  intro K1 hK1
  refine wp_region_sq [0, 1] (by kernel_rfl) ?_
  refine wpSq_call rfl (by kernel_rfl) fun K hK => ?_
  go_big_op
  obtain ⟨p_b1, w_1, eP, eW, x_b1, hn, kb_b1⟩ := newBox w #[.bool n_0a, .slice o_0a k_0a c_0a, .bool n_0b, .slice o_0b k_0b c_0b] 29 hb.size
  rw [eW, eP]
  clear eW eP
  replace ha1 := ha1.bl hn; replace ha2 := ha2.bl hn; replace hb := hb.trans (hn.mono hb.size)
  refine hK _ _ rfl ?_; clear hK K hn
  refine wpSq_call rfl (by kernel_rfl) fun K hK => ?_
  go_big_move; refine hK _ _ rfl ?_; clear hK K
  apply wpSq_end
  refine hK1 _ _ ?_
  refine wp_seq_k ?_
  intro K2 hK2
  refine wp_seq_k ?_
  intro K3 hK3
  refine wp_region_sq [0, 1, 2, 3] (by kernel_rfl) ?_
  refine wpSq_call rfl (by kernel_rfl) fun K hK => ?_
  go_big_op; refine hK _ _ rfl ?_; clear hK K
  refine wpSq_call rfl (by kernel_rfl) fun K hK => ?_
  obtain ⟨d0, d1, d2, d3⟩ := x_b1.f4
  go_big_op; refine hK _ _ rfl ?_; clear hK K d0 d1 d2 d3
  refine wpSq_call rfl (by kernel_rfl) fun K hK => ?_
  go_big_op
  go_fit (zsign_any ha2 (by omega) )
  rintro e w_2 ⟨rfl, hb_2⟩
  replace ha1 := ha1.bl hb_2; replace ha2 := ha2.bl hb_2; replace x_b1 := x_b1.bl hb_2; replace hb := hb.trans (hb_2.mono hb.size)
  rw [HY.out]
  refine hK _ _ rfl ?_
  clear hK K hb_2
  refine wpSq_call rfl (by kernel_rfl) fun K hK => ?_
  go_big_op; refine hK _ _ rfl ?_; clear hK K
  apply wpSq_end
  refine hK3 _ _ ?_
  refine wp_cond_false (congrArg Value.bool (show _ = false from (by first | rfl | assumption | (simp; done) | exact decide_eq_false (by omega) | omega))) ?_
  refine wp_skip ?_
  refine hK2 _ _ ?_
  refine wp_seq_k ?_
  intro K4 hK4
  refine wp_region_sq [0, 1, 2] (by kernel_rfl) ?_
  refine wpSq_call rfl (by kernel_rfl) fun K hK => ?_
  go_big_move; refine hK _ _ rfl ?_; clear hK K
  refine wpSq_call rfl (by kernel_rfl) fun K hK => ?_
  go_big_move; refine hK _ _ rfl ?_; clear hK K
  refine wpSq_call rfl (by kernel_rfl) fun K hK => ?_
  go_big_move; refine hK _ _ rfl ?_; clear hK K
  apply wpSq_end
  refine hK4 _ _ ?_
  refine wp_seq_k ?_
  intro K5 hK5
  refine wp_seq_k ?_
  intro K6 hK6
  refine wp_region_sq [0, 1, 2, 3] (by kernel_rfl) ?_
  refine wpSq_call rfl (by kernel_rfl) fun K hK => ?_
  go_big_op; refine hK _ _ rfl ?_; clear hK K
  refine wpSq_call rfl (by kernel_rfl) fun K hK => ?_
  obtain ⟨d0, d1, d2, d3⟩ := x_b1.f4
  go_big_op; refine hK _ _ rfl ?_; clear hK K d0 d1 d2 d3
  refine wpSq_call rfl (by kernel_rfl) fun K hK => ?_
  go_big_op
  go_fit (zsign_any ha1 (by omega) )
  rintro e w_3 ⟨rfl, hb_3⟩
  replace ha1 := ha1.bl hb_3; replace ha2 := ha2.bl hb_3; replace x_b1 := x_b1.bl hb_3; replace hb := hb.trans (hb_3.mono hb.size)
  rw [HG.out]
  refine hK _ _ rfl ?_
  clear hK K hb_3
  refine wpSq_call rfl (by kernel_rfl) fun K hK => ?_
  go_big_op; refine hK _ _ rfl ?_; clear hK K
  apply wpSq_end
  refine hK6 _ _ ?_
  refine wp_cond_true (congrArg Value.bool (show _ = true from (by simpa using hx0))) ?_
  refine wp_region_sq [0, 1, 2, 3, 4] (by kernel_rfl) ?_
  refine wpSq_call rfl (by kernel_rfl) fun K hK => ?_
  go_big_op; refine hK _ _ rfl ?_; clear hK K
  refine wpSq_call rfl (by kernel_rfl) fun K hK => ?_
  obtain ⟨d0, d1, d2, d3⟩ := x_b1.f4
  go_big_op; refine hK _ _ rfl ?_; clear hK K d0 d1 d2 d3
  refine wpSq_call rfl (by kernel_rfl) fun K hK => ?_
  go_big_op
  go_fit (ztext_s ha1 (by omega) (htabs _ hb))
  rintro e w_4 ⟨rfl, hb_4⟩
  replace ha1 := ha1.bl hb_4; replace ha2 := ha2.bl hb_4; replace x_b1 := x_b1.bl hb_4; replace hb := hb.trans (hb_4.mono hb.size)
  rw [HS.out]
  refine hK _ _ rfl ?_
  clear hK K hb_4
  refine wpSq_call rfl (by kernel_rfl) fun K hK => ?_
  go_big_move; refine hK _ _ rfl ?_; clear hK K
  refine wpSq_call rfl (by kernel_rfl) fun K hK => ?_
  go_big_move; refine hK _ _ rfl ?_; clear hK K
  apply wpSq_end
  refine hK5 _ _ ?_
  refine wp_seq_k ?_
  intro K7 hK7
  refine wp_seq_k ?_
  intro K8 hK8
  refine wp_region_sq [0, 1, 2, 3] (by kernel_rfl) ?_
  refine wpSq_call rfl (by kernel_rfl) fun K hK => ?_
  go_big_op; refine hK _ _ rfl ?_; clear hK K
  refine wpSq_call rfl (by kernel_rfl) fun K hK => ?_
  obtain ⟨d0, d1, d2, d3⟩ := x_b1.f4
  go_big_op; refine hK _ _ rfl ?_; clear hK K d0 d1 d2 d3
  refine wpSq_call rfl (by kernel_rfl) fun K hK => ?_
  go_big_op
  go_fit (zsign_any ha2 (by omega) )
  rintro e w_5 ⟨rfl, hb_5⟩
  replace ha1 := ha1.bl hb_5; replace ha2 := ha2.bl hb_5; replace x_b1 := x_b1.bl hb_5; replace hb := hb.trans (hb_5.mono hb.size)
  rw [HY.out]
  refine hK _ _ rfl ?_
  clear hK K hb_5
  refine wpSq_call rfl (by kernel_rfl) fun K hK => ?_
  go_big_op; refine hK _ _ rfl ?_; clear hK K
  apply wpSq_end
  refine hK8 _ _ ?_
  refine wp_cond_false (congrArg Value.bool (show _ = false from (by first | rfl | assumption | (simp; done) | exact decide_eq_false (by omega) | omega))) ?_
  refine wp_skip ?_
  refine hK7 _ _ ?_
  refine wp_seq_k ?_
  intro K9 hK9
  refine wp_seq_k ?_
  intro K10 hK10
  refine wp_region_sq [0, 1, 2, 3] (by kernel_rfl) ?_
  refine wpSq_call rfl (by kernel_rfl) fun K hK => ?_
  go_big_op; refine hK _ _ rfl ?_; clear hK K
  refine wpSq_call rfl (by kernel_rfl) fun K hK => ?_
  obtain ⟨d0, d1, d2, d3⟩ := x_b1.f4
  go_big_op; refine hK _ _ rfl ?_; clear hK K d0 d1 d2 d3
  refine wpSq_call rfl (by kernel_rfl) fun K hK => ?_
  go_big_op
  go_fit (zbits_any ha2 (by omega) )
  rintro e w_6 ⟨rfl, hb_6⟩
  replace ha1 := ha1.bl hb_6; replace ha2 := ha2.bl hb_6; replace x_b1 := x_b1.bl hb_6; replace hb := hb.trans (hb_6.mono hb.size)
  rw [HB.out]
  refine hK _ _ rfl ?_
  clear hK K hb_6
  refine wpSq_call rfl (by kernel_rfl) fun K hK => ?_
  go_big_op; refine hK _ _ rfl ?_; clear hK K
  apply wpSq_end
  refine hK10 _ _ ?_
  refine wp_cond_true (congrArg Value.bool (show _ = true from (by first | rfl | assumption | (simp; done) | exact decide_eq_true (by omega) | omega))) ?_
  refine wp_region_sq [0, 1, 2, 3, 4] (by kernel_rfl) ?_
  refine wpSq_call rfl (by kernel_rfl) fun K hK => ?_
  go_big_op; refine hK _ _ rfl ?_; clear hK K
  refine wpSq_call rfl (by kernel_rfl) fun K hK => ?_
  obtain ⟨d0, d1, d2, d3⟩ := x_b1.f4
  go_big_op; refine hK _ _ rfl ?_; clear hK K d0 d1 d2 d3
  refine wpSq_call rfl (by kernel_rfl) fun K hK => ?_
  go_big_op
  go_fit (zabs_any ha2 (by omega) )
  rintro e w_7 ⟨v_g, rfl, g, hb_7⟩
  clear ha1 x_b1
  replace ha2 := ha2.bl hb_7; replace hb := hb.trans (hb_7.mono hb.size)
  replace g := g.rd
  obtain ⟨n_g, o_g, k_g, c_g, rfl⟩ := g.open2
  have Lg := hide (g.lenOf (zlen_abs (ha2.len)))
  refine hK _ _ rfl ?_
  clear hK K hb_7
  refine wpSq_call rfl (by kernel_rfl) fun K hK => ?_
  go_big_op
  go_fit (ztext_s (g.zn Lg.out) (by omega) (htabs _ hb))
  rintro e w_8 ⟨rfl, hb_8⟩
  clear ha2
  replace g := g.bl hb_8; replace hb := hb.trans (hb_8.mono hb.size)
  rw [HT.out]
  refine hK _ _ rfl ?_
  clear hK K hb_8
  refine wpSq_call rfl (by kernel_rfl) fun K hK => ?_
  go_big_move; refine hK _ _ rfl ?_; clear hK K
  apply wpSq_end
  refine hK9 _ _ ?_
  refine wp_seq_k ?_
  intro K11 hK11
  refine wp_region_sq [0, 1, 2, 3, 4, 5, 6] (by kernel_rfl) ?_
  refine wpSq_call rfl (by kernel_rfl) fun K hK => ?_
  go_big_move; refine hK _ _ rfl ?_; clear hK K
  refine wpSq_call rfl (by kernel_rfl) fun K hK => ?_
  go_big_move; refine hK _ _ rfl ?_; clear hK K
  refine wpSq_call rfl (by kernel_rfl) fun K hK => ?_
  go_big_op; refine hK _ _ rfl ?_; clear hK K
  refine wpSq_call rfl (by kernel_rfl) fun K hK => ?_
  go_big_move; refine hK _ _ rfl ?_; clear hK K
  refine wpSq_call rfl (by kernel_rfl) fun K hK => ?_
  go_big_op; refine hK _ _ rfl ?_; clear hK K
  refine wpSq_call rfl (by kernel_rfl) fun K hK => ?_
  go_big_op; refine hK _ _ rfl ?_; clear hK K
  refine wpSq_call rfl (by kernel_rfl) fun K hK => ?_
  go_big_move; refine hK _ _ rfl ?_; clear hK K
  apply wpSq_end
  refine hK11 _ _ ?_
  refine wp_ret ?_
  try dsimp only [Exit.then, Exit.inBlock]
  refine bodyPost_ret (v := (.string (S ++ ⟨#[43]⟩ ++ T ++ ⟨#[105]⟩))) (by simp [results, Tryz.results19, go_sem]) rfl ?_
  exact ⟨rfl, hb⟩
theorem gText_any (ha : PN w va x l y m) (hl : l ≤ 10000000) (hm : m ≤ 10000000) (htab : Lib.TabIs Tryz.prog w p10 .u64 Lib.pow10Tab) :
    Calls Tryz.prog 19 #[va] w fun e w' => e = .returned (.string (gts x y)) ∧ Below w.heap.size w w' := by
  by_cases h0 : y = 0
  · unfold gts; rw [if_pos h0]; subst h0; exact gText_re ha hl hm htab
  have hs := zts_size ha.len1
  have ht := zts_size (show (dig (y.natAbs : Int).natAbs).length ≤ m from zlen_abs ha.len2)
  unfold gts gRe gSg gAm
  rw [if_neg h0]
  by_cases hx : x = 0 <;> by_cases hy : y < 0 <;> by_cases hb : 1 < bitsN y.natAbs
  · rw [if_pos hx, if_pos hy, if_pos hb]; rw [hx] at ha; exact gText_zmb ha hl hm hy hb rfl rfl hs ht htab
  · rw [if_pos hx, if_pos hy, if_neg hb]; rw [hx] at ha; exact gText_zmo ha hl hm hy (by omega) rfl rfl hs ht htab
  · rw [if_pos hx, if_neg hy, if_pos hx, if_pos hb]; rw [hx] at ha; exact gText_zpb ha hl hm (by omega) hb rfl rfl hs ht htab
  · rw [if_pos hx, if_neg hy, if_pos hx, if_neg hb]; rw [hx] at ha; exact gText_zpo ha hl hm (by omega) (by omega) rfl rfl hs ht htab
  · rw [if_neg hx, if_pos hy, if_pos hb]; exact gText_nmb ha hl hm hx hy hb rfl rfl hs ht htab
  · rw [if_neg hx, if_pos hy, if_neg hb]; exact gText_nmo ha hl hm hx hy (by omega) rfl rfl hs ht htab
  · rw [if_neg hx, if_neg hy, if_neg hx, if_pos hb]; exact gText_npb ha hl hm hx (by omega) hb rfl rfl hs ht htab
  · rw [if_neg hx, if_neg hy, if_neg hx, if_neg hb]; exact gText_npo ha hl hm hx (by omega) (by omega) rfl rfl hs ht htab
theorem gts_55 : gts 5 5 = ⟨#[53, 43, 53, 105]⟩ := by
  have h5 : zts 5 = ⟨#[53]⟩ := by unfold zts ztx; rw [if_neg (by decide), show Int.natAbs 5 = 5 from rfl, dec1 5 (by decide)]; rfl
  unfold gts gRe gSg gAm
  rw [if_neg (by decide), if_neg (by decide), if_neg (by decide), if_neg (by decide), if_pos (by decide), show ((Int.natAbs 5 : Nat) : Int) = 5 from rfl, h5]
  rfl
set_option maxHeartbeats 4000000 in
set_option maxRecDepth 20000 in
theorem gawake_any (w : World) (htab : Lib.TabIs Tryz.prog w p10 .u64 Lib.pow10Tab) :
    Calls Tryz.prog 6 #[] w fun e w' => e = .returned (.bool true) ∧ Below w.heap.size w w' := by
  have htabs := Lib.tabBelow_of_tabIs htab
  have L := fun (n : Int) (h : n.natAbs ≤ 100) => zlen_i n (by omega) (by omega)
  have L1 := hide (L 1 (by decide))
  have L2 := hide (L 2 (by decide))
  have L3 := hide (L 3 (by decide))
  have L4 := hide (L (-1) (by decide))
  have L5 := hide (L 5 (by decide))
  have L6 := hide (L (-3) (by decide))
  have E1 := hide (show (1 : Int) * 3 - 2 * -1 = 5 ∧ (1 : Int) * -1 + 2 * 3 = 5 by decide)
  have E2 := hide gts_55
  clear L
  go_enter Tryz.func6, Tryz.ntmps6
  have hb := Below.refl w.heap.size w
  refine wp_seq_k ?_
  intro K1 hK1
  refine wp_region_sq [0] (by kernel_rfl) ?_
  refine wpSq_call rfl (by kernel_rfl) fun K hK => ?_
  go_big_move; refine hK _ _ rfl ?_; clear hK K
  apply wpSq_end
  refine hK1 _ _ ?_
  refine wp_seq_k ?_
  intro K2 hK2
  refine wp_region_sq [0, 1, 2, 3, 4] (by kernel_rfl) ?_
  refine wpSq_call rfl (by kernel_rfl) fun K hK => ?_
  go_big_op
  go_fit (gg_any 1 2 _ (by decide) (by decide) (by decide) (by decide))
  rintro e w_1 ⟨_, rfl, ⟨n_aa, o_aa, k_aa, c_aa, n_ab, o_ab, k_ab, c_ab, rfl, a1, a2⟩, hb_1⟩
  replace hb := hb.trans (hb_1.mono hb.size)
  have La1 := hide (a1.lenOf (L1.out))
  have La2 := hide (a2.lenOf (L2.out))
  refine hK _ _ rfl ?_
  clear hK K hb_1
  refine wpSq_call rfl (by kernel_rfl) fun K hK => ?_
  go_big_op
  go_fit (gg_any 3 (-1) _ (by decide) (by decide) (by decide) (by decide))
  rintro e w_2 ⟨_, rfl, ⟨n_ba, o_ba, k_ba, c_ba, n_bb, o_bb, k_bb, c_bb, rfl, b1, b2⟩, hb_2⟩
  replace a1 := a1.bl hb_2; replace a2 := a2.bl hb_2; replace hb := hb.trans (hb_2.mono hb.size)
  have Lb1 := hide (b1.lenOf (L3.out))
  have Lb2 := hide (b2.lenOf (L4.out))
  refine hK _ _ rfl ?_
  clear hK K hb_2
  refine wpSq_call rfl (by kernel_rfl) fun K hK => ?_
  go_big_op
  go_fit (gMul_any (PN.mk' (a1.zn La1.out) (a2.zn La2.out)) (PN.mk' (b1.zn Lb1.out) (b2.zn Lb2.out)) (by omega) (by omega) (by omega) (by omega) )
  rintro e w_3 ⟨_, rfl, ⟨n_ca, o_ca, k_ca, c_ca, n_cb, o_cb, k_cb, c_cb, rfl, c1, c2⟩, hb_3⟩
  replace a1 := a1.bl hb_3; replace a2 := a2.bl hb_3; replace b1 := b1.bl hb_3; replace b2 := b2.bl hb_3; replace hb := hb.trans (hb_3.mono hb.size)
  have Lc1 := hide (c1.lenOf (zlen_sub (zlen_mul (La1.out) (Lb1.out)) (zlen_mul (La2.out) (Lb2.out))))
  have Lc2 := hide (c2.lenOf (zlen_add (zlen_mul (La1.out) (Lb2.out)) (zlen_mul (La2.out) (Lb1.out))))
  rw [E1.out.1] at c1
  rw [E1.out.2] at c2
  refine hK _ _ rfl ?_
  clear hK K hb_3
  refine wpSq_call rfl (by kernel_rfl) fun K hK => ?_
  go_big_op
  clear a1 a2 b1 b2
  obtain ⟨p_b1, w_4, eP, eW, x_b1, hn, kb_b1⟩ := newBox w_3 #[.bool false, .slice none 0 0, .bool false, .slice none 0 0] 29 hb.size
  rw [eW, eP]
  clear eW eP
  replace c1 := c1.bl hn; replace c2 := c2.bl hn; replace hb := hb.trans (hn.mono hb.size)
  refine hK _ _ rfl ?_; clear hK K hn
  refine wpSq_call rfl (by kernel_rfl) fun K hK => ?_
  obtain ⟨d0, d1, d2, d3⟩ := x_b1.f4
  have f0 := x_b1.free 0; have f1 := x_b1.free 1; have f2 := x_b1.free 2; have f3 := x_b1.free 3
  go_big_op
  have hnd := x_b1.nod rfl rfl
  obtain ⟨w_5, eW, x_b1', ho⟩ : ∃ w', ((((w_4.setCell ⟨p_b1, 0, none⟩ (.bool n_ca)).setCell ⟨p_b1, 1, none⟩ (.slice o_ca k_ca c_ca)).setCell ⟨p_b1, 2, none⟩ (.bool n_cb)).setCell ⟨p_b1, 3, none⟩ (.slice o_cb k_cb c_cb)) = w' ∧ Bs w' p_b1 #[.bool n_ca, .slice o_ca k_ca c_ca, .bool n_cb, .slice o_cb k_cb c_cb] 29 ∧ Only p_b1 w_4 w' := x_b1.setN [(0, .bool n_ca), (1, .slice o_ca k_ca c_ca), (2, .bool n_cb), (3, .slice o_cb k_cb c_cb)]
  rw [eW]; clear eW d0 d1 d2 d3 f0 f1 f2 f3 x_b1
  have x_b1 := x_b1'; clear x_b1'
  replace c1 := c1.fr hnd ho; replace c2 := c2.fr hnd ho; replace hb := belowOnly hb ho kb_b1
  refine hK _ _ rfl ?_; clear hK K ho hnd
  apply wpSq_end
  refine hK2 _ _ ?_
  refine wp_seq_k ?_
  intro K3 hK3
  refine wp_region_fl2 [(0, false), (1, true), (2, true), (3, false), (4, false), (5, true), (6, false), (7, false), (8, false), (9, true), (10, true), (11, true), (12, false), (13, false)] [] [] (fun _ => default) [0, 99, 99, 99, 0, 99, 99, 99, 99, 99, 99, 99, 99, 99] [] (fun w' => w'.cell? ⟨p_b1, 0, none⟩ = some (.bool n_ca) ∧ w'.cell? ⟨p_b1, 1, none⟩ = some (.slice o_ca k_ca c_ca) ∧ w'.cell? ⟨p_b1, 2, none⟩ = some (.bool n_cb) ∧ w'.cell? ⟨p_b1, 3, none⟩ = some (.slice o_cb k_cb c_cb)) [fun w' => w'.cell? ⟨p_b1, 0, none⟩ = some (.bool n_ca) ∧ w'.cell? ⟨p_b1, 1, none⟩ = some (.slice o_ca k_ca c_ca) ∧ w'.cell? ⟨p_b1, 2, none⟩ = some (.bool n_cb) ∧ w'.cell? ⟨p_b1, 3, none⟩ = some (.slice o_cb k_cb c_cb)] (by kernel_rfl) (by kernel_rfl) (by kernel_rfl) (by kernel_rfl) (by kernel_rfl) (by kernel_rfl) (by kernel_rfl) (by kernel_rfl) (by decide) (by intro j hj; cases hj) (by intro w' o hC; obtain ⟨c0, c1, c2, c3⟩ := hC; exact ⟨cell_alloc c0 o, cell_alloc c1 o, cell_alloc c2 o, cell_alloc c3 o⟩) (by intro w' hC G hG; obtain ⟨c0, c1, c2, c3⟩ := hC; simp only [List.mem_cons, List.not_mem_nil, or_false] at hG; rcases hG with rfl <;> first | exact ⟨c0, c1, c2, c3⟩) ?_
  have lt_b1 := x_b1.lt
  intro w_6 hn
  replace lt_b1 := Nat.lt_of_lt_of_le lt_b1 hn.size
  replace c1 := c1.bl hn; replace c2 := c2.bl hn; replace x_b1 := x_b1.bl hn; replace hb := hb.trans (hn.mono hb.size)
  clear hn
  have kb0 := hb.size
  refine ⟨⟨x_b1.cell 0 rfl, x_b1.cell 1 rfl, x_b1.cell 2 rfl, x_b1.cell 3 rfl⟩, ?_⟩
  apply wpFl_ld rfl rfl; (case h1 => intro w' hC K hK; obtain ⟨c0, c1, c2, c3⟩ := hC; go_big_op; exact hK); iterate 4 kernel_rfl
  have Lc1 := hide (c1.lenOf (L5.out))
  have Lc2 := hide (c2.lenOf (L5.out))
  refine wpFl_call rfl (by kernel_rfl) fun w_7 hn hC => ?_; clear hC
  replace c1 := c1.bl hn; replace c2 := c2.bl hn; replace x_b1 := x_b1.bl hn; replace hb := hb.trans (hn.mono hb.size)
  clear hn; intro K hK
  go_big_op
  go_fit (gg_any 5 5 _ (by decide) (by decide) (by decide) (by decide))
  rintro e w_8 ⟨_, rfl, ⟨n_da, o_da, k_da, c_da, n_db, o_db, k_db, c_db, rfl, d1, d2⟩, hb_8⟩
  replace c1 := c1.bl hb_8; replace c2 := c2.bl hb_8; replace x_b1 := x_b1.bl hb_8; replace hb := hb.trans (hb_8.mono hb.size)
  have Ld1 := hide (d1.lenOf (L5.out))
  have Ld2 := hide (d2.lenOf (L5.out))
  refine hK _ _ rfl hb_8 ⟨x_b1.cell 0 rfl, x_b1.cell 1 rfl, x_b1.cell 2 rfl, x_b1.cell 3 rfl⟩ ?_
  clear hK K hb_8
  refine wpFl_call rfl (by kernel_rfl) fun w_9 hn hC => ?_; clear hC
  replace c1 := c1.bl hn; replace c2 := c2.bl hn; replace x_b1 := x_b1.bl hn; replace d1 := d1.bl hn; replace d2 := d2.bl hn; replace hb := hb.trans (hn.mono hb.size)
  clear hn; intro K hK
  go_big_op
  go_fit (gis_any (PC.mk' c1 c2) (PN.mk' (d1.zn Ld1.out) (d2.zn Ld2.out)) (by omega) (by omega) )
  rintro e w_10 ⟨rfl, hb_10⟩
  replace c1 := c1.bl hb_10; replace c2 := c2.bl hb_10; replace x_b1 := x_b1.bl hb_10; replace d1 := d1.bl hb_10; replace d2 := d2.bl hb_10; replace hb := hb.trans (hb_10.mono hb.size)
  refine hK _ _ rfl hb_10 ⟨x_b1.cell 0 rfl, x_b1.cell 1 rfl, x_b1.cell 2 rfl, x_b1.cell 3 rfl⟩ ?_
  clear hK K hb_10
  apply wpFl_ld rfl rfl; (case h1 => intro w' hC K hK; go_big_move; exact hK); iterate 4 kernel_rfl
  apply wpFl_ld rfl rfl; (case h1 => intro w' hC K hK; obtain ⟨c0, c1, c2, c3⟩ := hC; go_big_op; exact hK); iterate 4 kernel_rfl
  refine wpFl_call rfl (by kernel_rfl) fun w_11 hn hC => ?_; clear hC
  clear d1 d2
  replace c1 := c1.bl hn; replace c2 := c2.bl hn; replace x_b1 := x_b1.bl hn; replace hb := hb.trans (hn.mono hb.size)
  clear hn; intro K hK
  go_big_op
  go_fit (gText_any (.mk' (c1.zn L5.out) (c2.zn L5.out)) (by decide) (by decide) (htabs _ hb))
  rintro e w_12 ⟨rfl, hb_12⟩
  replace c1 := c1.bl hb_12; replace c2 := c2.bl hb_12; replace x_b1 := x_b1.bl hb_12; replace hb := hb.trans (hb_12.mono hb.size)
  rw [E2.out]
  refine hK _ _ rfl hb_12 ⟨x_b1.cell 0 rfl, x_b1.cell 1 rfl, x_b1.cell 2 rfl, x_b1.cell 3 rfl⟩ ?_
  clear hK K hb_12
  apply wpFl_ld rfl rfl; (case h1 => intro w' hC K hK; go_big_op; exact hK); iterate 4 kernel_rfl
  apply wpFl_ld rfl rfl; (case h1 => intro w' hC K hK; go_big_op; exact hK); iterate 4 kernel_rfl
  apply wpFl_ld rfl rfl; (case h1 => intro w' hC K hK; go_big_move; exact hK); iterate 4 kernel_rfl
  refine wpFl_call rfl (by kernel_rfl) fun w_13 hn hC => ?_; clear hC
  replace c1 := c1.bl hn; replace c2 := c2.bl hn; replace x_b1 := x_b1.bl hn; replace hb := hb.trans (hn.mono hb.size)
  clear hn; intro K hK
  go_big_op
  go_fit (gFrom_any 2 (-3) _ (by decide) (by decide) (by decide) (by decide))
  rintro e w_14 ⟨_, rfl, ⟨n_fa, o_fa, k_fa, c_fa, n_fb, o_fb, k_fb, c_fb, rfl, f1, f2⟩, hb_14⟩
  replace c1 := c1.bl hb_14; replace c2 := c2.bl hb_14; replace x_b1 := x_b1.bl hb_14; replace hb := hb.trans (hb_14.mono hb.size)
  have Lf1 := hide (f1.lenOf (L2.out))
  have Lf2 := hide (f2.lenOf (L6.out))
  refine hK _ _ rfl hb_14 ⟨x_b1.cell 0 rfl, x_b1.cell 1 rfl, x_b1.cell 2 rfl, x_b1.cell 3 rfl⟩ ?_
  clear hK K hb_14
  refine wpFl_call rfl (by kernel_rfl) fun w_15 hn hC => ?_; clear hC
  replace c1 := c1.bl hn; replace c2 := c2.bl hn; replace x_b1 := x_b1.bl hn; replace f1 := f1.bl hn; replace f2 := f2.bl hn; replace hb := hb.trans (hn.mono hb.size)
  clear hn; intro K hK
  go_big_op
  go_fit (gg_any 2 (-3) _ (by decide) (by decide) (by decide) (by decide))
  rintro e w_16 ⟨_, rfl, ⟨n_ga, o_ga, k_ga, c_ga, n_gb, o_gb, k_gb, c_gb, rfl, g1, g2⟩, hb_16⟩
  replace c1 := c1.bl hb_16; replace c2 := c2.bl hb_16; replace x_b1 := x_b1.bl hb_16; replace f1 := f1.bl hb_16; replace f2 := f2.bl hb_16; replace hb := hb.trans (hb_16.mono hb.size)
  have Lg1 := hide (g1.lenOf (L2.out))
  have Lg2 := hide (g2.lenOf (L6.out))
  refine hK _ _ rfl hb_16 ⟨x_b1.cell 0 rfl, x_b1.cell 1 rfl, x_b1.cell 2 rfl, x_b1.cell 3 rfl⟩ ?_
  clear hK K hb_16
  refine wpFl_call rfl (by kernel_rfl) fun w_17 hn hC => ?_; clear hC
  replace c1 := c1.bl hn; replace c2 := c2.bl hn; replace x_b1 := x_b1.bl hn; replace f1 := f1.bl hn; replace f2 := f2.bl hn; replace g1 := g1.bl hn; replace g2 := g2.bl hn; replace hb := hb.trans (hn.mono hb.size)
  clear hn; intro K hK
  go_big_op
  go_fit (gis_any (PC.mk' f1 f2) (PN.mk' (g1.zn Lg1.out) (g2.zn Lg2.out)) (by omega) (by omega) )
  rintro e w_18 ⟨rfl, hb_18⟩
  replace c1 := c1.bl hb_18; replace c2 := c2.bl hb_18; replace x_b1 := x_b1.bl hb_18; replace f1 := f1.bl hb_18; replace f2 := f2.bl hb_18; replace g1 := g1.bl hb_18; replace g2 := g2.bl hb_18; replace hb := hb.trans (hb_18.mono hb.size)
  refine hK _ _ rfl hb_18 ⟨x_b1.cell 0 rfl, x_b1.cell 1 rfl, x_b1.cell 2 rfl, x_b1.cell 3 rfl⟩ ?_
  clear hK K hb_18
  apply wpFl_ld rfl rfl; (case h1 => intro w' hC K hK; go_big_op; exact hK); iterate 4 kernel_rfl
  apply wpFl_ld rfl rfl; (case h1 => intro w' hC K hK; go_big_move; exact hK); iterate 4 kernel_rfl
  apply wpFl_end
  case ha => intro pt; simp only [putF]; rfl
  case h =>
  intro w_19 pt hn hC hF hD
  clear hC
  clear f1 f2 g1 g2
  replace c1 := c1.bl hn; replace c2 := c2.bl hn; replace x_b1 := x_b1.bl hn; replace hb := hb.trans (hn.mono hb.size)
  clear hn
  clear hF hD
  clear pt
  clear kb0 lt_b1
  apply wpTail_end
  refine hK3 _ _ ?_
  refine wp_ret ?_
  try dsimp only [Exit.then, Exit.inBlock]
  refine bodyPost_ret (v := (.bool true)) (by simp [results, Tryz.results6, go_sem]) rfl ?_
  exact ⟨rfl, hb⟩
end
end Go.Proofs.YtgjainmfilkjmaaGreatDoor

/- The reference's Round, Zero; what quotients and rests are. -/
namespace Go.Proofs.YtgjainmfilkjmaaGreatDoor
open Go Go.RowKit Dig
set_option linter.unusedVariables false

section
variable {w : World} {va vb : Value} {x y u v : Int} {l m k n : Nat}
set_option maxHeartbeats 4000000 in
set_option maxRecDepth 20000 in
theorem rgRound_any (ha : PN w va x l y m) (hq : PN w vb u k v n) (hl : l ≤ 2000000) (hm : m ≤ 2000000) (hk : k ≤ 2000000) (hn : n ≤ 2000000) (h0 : gN u v ≠ 0) :
    Calls Tryz.prog 52 #[va, vb] w fun e w' => ∃ r s, e = .returned (.tuple #[r, s]) ∧ PC w' r (gQ1 x y u v) (gQ2 x y u v) ∧ PC w' s (gR1 x y u v) (gR2 x y u v) ∧ Below w.heap.size w w' := by
  have H0 := hide h0
  clear h0
  unfold gR1 gR2 gQ1 gQ2 gT1 gT2
  obtain ⟨n_0a, o_0a, k_0a, c_0a, n_0b, o_0b, k_0b, c_0b, rfl, ha1, ha2⟩ := ha
  obtain ⟨n_1a, o_1a, k_1a, c_1a, n_1b, o_1b, k_1b, c_1b, rfl, hq1, hq2⟩ := hq
  go_enter Tryz.func52, Tryz.ntmps52
  have hb := Below.refl w.heap.size w
  refine wp_seq_k ?_
  intro K1 hK1
  refine wp_region_sq [0, 1, 2, 3] (by kernel_rfl) ?_
  refine wpSq_call rfl (by kernel_rfl) fun K hK => ?_
  go_big_op
  obtain ⟨p_b1, w_1, eP, eW, x_b1, hn, kb_b1⟩ := newBox w #[.bool n_0a, .slice o_0a k_0a c_0a, .bool n_0b, .slice o_0b k_0b c_0b] 29 hb.size
  rw [eW, eP]
  clear eW eP
  replace ha1 := ha1.bl hn; replace ha2 := ha2.bl hn; replace hq1 := hq1.bl hn; replace hq2 := hq2.bl hn; replace hb := hb.trans (hn.mono hb.size)
  refine hK _ _ rfl ?_; clear hK K hn
  refine wpSq_call rfl (by kernel_rfl) fun K hK => ?_
  go_big_op
  have lt_b1 := x_b1.lt
  obtain ⟨p_b2, w_2, eP, eW, x_b2, hn, kb_b2⟩ := newBox w_1 #[.bool n_1a, .slice o_1a k_1a c_1a, .bool n_1b, .slice o_1b k_1b c_1b] 29 hb.size
  have ne_b1_b2 : Hid (p_b1 ≠ p_b2) := Nat.ne_of_lt (eP ▸ lt_b1)
  rw [eW, eP]
  clear eW eP lt_b1
  replace ha1 := ha1.bl hn; replace ha2 := ha2.bl hn; replace hq1 := hq1.bl hn; replace hq2 := hq2.bl hn; replace x_b1 := x_b1.bl hn; replace hb := hb.trans (hn.mono hb.size)
  refine hK _ _ rfl ?_; clear hK K hn
  refine wpSq_call rfl (by kernel_rfl) fun K hK => ?_
  go_big_op
  have lt_b1 := x_b1.lt
  have lt_b2 := x_b2.lt
  obtain ⟨p_b3, w_3, eP, eW, x_b3, hn, kb_b3⟩ := newBox w_2 #[.bool false, .slice none 0 0, .bool false, .slice none 0 0] 29 hb.size
  have ne_b1_b3 : Hid (p_b1 ≠ p_b3) := Nat.ne_of_lt (eP ▸ lt_b1)
  have ne_b2_b3 : Hid (p_b2 ≠ p_b3) := Nat.ne_of_lt (eP ▸ lt_b2)
  rw [eW, eP]
  clear eW eP lt_b1 lt_b2
  replace ha1 := ha1.bl hn; replace ha2 := ha2.bl hn; replace hq1 := hq1.bl hn; replace hq2 := hq2.bl hn; replace x_b1 := x_b1.bl hn; replace x_b2 := x_b2.bl hn; replace hb := hb.trans (hn.mono hb.size)
  refine hK _ _ rfl ?_; clear hK K hn
  refine wpSq_call rfl (by kernel_rfl) fun K hK => ?_
  go_big_op
  have lt_b1 := x_b1.lt
  have lt_b2 := x_b2.lt
  have lt_b3 := x_b3.lt
  obtain ⟨p_b4, w_4, eP, eW, x_b4, hn, kb_b4⟩ := newBox w_3 #[.bool false, .slice none 0 0, .bool false, .slice none 0 0] 29 hb.size
  have ne_b1_b4 : Hid (p_b1 ≠ p_b4) := Nat.ne_of_lt (eP ▸ lt_b1)
  have ne_b2_b4 : Hid (p_b2 ≠ p_b4) := Nat.ne_of_lt (eP ▸ lt_b2)
  have ne_b3_b4 : Hid (p_b3 ≠ p_b4) := Nat.ne_of_lt (eP ▸ lt_b3)
  rw [eW, eP]
  clear eW eP lt_b1 lt_b2 lt_b3
  replace ha1 := ha1.bl hn; replace ha2 := ha2.bl hn; replace hq1 := hq1.bl hn; replace hq2 := hq2.bl hn; replace x_b1 := x_b1.bl hn; replace x_b2 := x_b2.bl hn; replace x_b3 := x_b3.bl hn; replace hb := hb.trans (hn.mono hb.size)
  refine hK _ _ rfl ?_; clear hK K hn
  apply wpSq_end
  refine hK1 _ _ ?_
  refine wp_seq_k ?_
  intro K2 hK2
  refine wp_region_sq [0, 1, 2, 3] (by kernel_rfl) ?_
  refine wpSq_call rfl (by kernel_rfl) fun K hK => ?_
  obtain ⟨d0, d1, d2, d3⟩ := x_b2.f4
  go_big_op; refine hK _ _ rfl ?_; clear hK K d0 d1 d2 d3
  refine wpSq_call rfl (by kernel_rfl) fun K hK => ?_
  go_big_op
  go_fit (rgNorm_any (PN.mk' hq1 hq2) (by omega) (by omega) )
  rintro e w_5 ⟨v_g2, rfl, g2, hb_5⟩
  replace ha1 := ha1.bl hb_5; replace ha2 := ha2.bl hb_5; replace hq1 := hq1.bl hb_5; replace hq2 := hq2.bl hb_5; replace x_b1 := x_b1.bl hb_5; replace x_b2 := x_b2.bl hb_5; replace x_b3 := x_b3.bl hb_5; replace x_b4 := x_b4.bl hb_5; replace hb := hb.trans (hb_5.mono hb.size)
  obtain ⟨n_g2, o_g2, k_g2, c_g2, rfl⟩ := g2.open2
  have Lg2 := hide (g2.lenOf (zlen_add (zlen_mul (hq1.len) (hq1.len)) (zlen_mul (hq2.len) (hq2.len))))
  refine hK _ _ rfl ?_
  clear hK K hb_5
  refine wpSq_call rfl (by kernel_rfl) fun K hK => ?_
  go_big_op
  have lt_b1 := x_b1.lt
  have lt_b2 := x_b2.lt
  have lt_b3 := x_b3.lt
  have lt_b4 := x_b4.lt
  obtain ⟨p_b5, w_6, eP, eW, x_b5, hn, kb_b5⟩ := newBox w_5 #[.bool false, .slice none 0 0] 26 hb.size
  have ne_b1_b5 : Hid (p_b1 ≠ p_b5) := Nat.ne_of_lt (eP ▸ lt_b1)
  have ne_b2_b5 : Hid (p_b2 ≠ p_b5) := Nat.ne_of_lt (eP ▸ lt_b2)
  have ne_b3_b5 : Hid (p_b3 ≠ p_b5) := Nat.ne_of_lt (eP ▸ lt_b3)
  have ne_b4_b5 : Hid (p_b4 ≠ p_b5) := Nat.ne_of_lt (eP ▸ lt_b4)
  rw [eW, eP]
  clear eW eP lt_b1 lt_b2 lt_b3 lt_b4
  replace ha1 := ha1.bl hn; replace ha2 := ha2.bl hn; replace hq1 := hq1.bl hn; replace hq2 := hq2.bl hn; replace x_b1 := x_b1.bl hn; replace x_b2 := x_b2.bl hn; replace x_b3 := x_b3.bl hn; replace x_b4 := x_b4.bl hn; replace g2 := g2.bl hn; replace hb := hb.trans (hn.mono hb.size)
  refine hK _ _ rfl ?_; clear hK K hn
  refine wpSq_call rfl (by kernel_rfl) fun K hK => ?_
  obtain ⟨d0, d1⟩ := x_b5.f2
  have f0 := x_b5.free 0; have f1 := x_b5.free 1
  go_big_op
  have hnd := x_b5.nod rfl rfl
  obtain ⟨w_7, eW, x_b5', ho⟩ : ∃ w', ((w_6.setCell ⟨p_b5, 0, none⟩ (.bool n_g2)).setCell ⟨p_b5, 1, none⟩ (.slice o_g2 k_g2 c_g2)) = w' ∧ Bs w' p_b5 #[.bool n_g2, .slice o_g2 k_g2 c_g2] 26 ∧ Only p_b5 w_6 w' := x_b5.setN [(0, .bool n_g2), (1, .slice o_g2 k_g2 c_g2)]
  rw [eW]; clear eW d0 d1 f0 f1 x_b5
  have x_b5 := x_b5'; clear x_b5'
  replace ha1 := ha1.fr hnd ho; replace ha2 := ha2.fr hnd ho; replace hq1 := hq1.fr hnd ho; replace hq2 := hq2.fr hnd ho; replace x_b1 := x_b1.frame ho ne_b1_b5; replace x_b2 := x_b2.frame ho ne_b2_b5; replace x_b3 := x_b3.frame ho ne_b3_b5; replace x_b4 := x_b4.frame ho ne_b4_b5; replace g2 := g2.fr hnd ho; replace hb := belowOnly hb ho kb_b5
  refine hK _ _ rfl ?_; clear hK K ho hnd
  apply wpSq_end
  refine hK2 _ _ ?_
  refine wp_seq_k ?_
  intro K3 hK3
  refine wp_region_fl2 [(0, false), (1, false), (2, true), (3, true)] [5] [4] (fun j => (.cells #[.bool false, .slice none 0 0, .bool false, .slice none 0 0] 29)) [0, 1, 99, 99, 99, 99] [] (fun w' => w'.cell? ⟨p_b1, 0, none⟩ = some (.bool n_0a) ∧ w'.cell? ⟨p_b1, 1, none⟩ = some (.slice o_0a k_0a c_0a) ∧ w'.cell? ⟨p_b1, 2, none⟩ = some (.bool n_0b) ∧ w'.cell? ⟨p_b1, 3, none⟩ = some (.slice o_0b k_0b c_0b) ∧ w'.cell? ⟨p_b2, 0, none⟩ = some (.bool n_1a) ∧ w'.cell? ⟨p_b2, 1, none⟩ = some (.slice o_1a k_1a c_1a) ∧ w'.cell? ⟨p_b2, 2, none⟩ = some (.bool n_1b) ∧ w'.cell? ⟨p_b2, 3, none⟩ = some (.slice o_1b k_1b c_1b)) [fun w' => w'.cell? ⟨p_b1, 0, none⟩ = some (.bool n_0a) ∧ w'.cell? ⟨p_b1, 1, none⟩ = some (.slice o_0a k_0a c_0a) ∧ w'.cell? ⟨p_b1, 2, none⟩ = some (.bool n_0b) ∧ w'.cell? ⟨p_b1, 3, none⟩ = some (.slice o_0b k_0b c_0b), fun w' => w'.cell? ⟨p_b2, 0, none⟩ = some (.bool n_1a) ∧ w'.cell? ⟨p_b2, 1, none⟩ = some (.slice o_1a k_1a c_1a) ∧ w'.cell? ⟨p_b2, 2, none⟩ = some (.bool n_1b) ∧ w'.cell? ⟨p_b2, 3, none⟩ = some (.slice o_1b k_1b c_1b)] (by kernel_rfl) (by kernel_rfl) (by kernel_rfl) (by kernel_rfl) (by kernel_rfl) (by kernel_rfl) (by kernel_rfl) (by kernel_rfl) (by decide) (by intro j hj; simp only [List.mem_cons, List.not_mem_nil, or_false] at hj; rcases hj with rfl; all_goals exact ⟨_, rfl, rfl, fun ρ w => by unfold ptr; simp [go_sem]⟩) (by intro w' o hC; obtain ⟨c0, c1, c2, c3, c4, c5, c6, c7⟩ := hC; exact ⟨cell_alloc c0 o, cell_alloc c1 o, cell_alloc c2 o, cell_alloc c3 o, cell_alloc c4 o, cell_alloc c5 o, cell_alloc c6 o, cell_alloc c7 o⟩) (by intro w' hC G hG; obtain ⟨c0, c1, c2, c3, c4, c5, c6, c7⟩ := hC; simp only [List.mem_cons, List.not_mem_nil, or_false] at hG; rcases hG with rfl | rfl <;> first | exact ⟨c0, c1, c2, c3⟩ | exact ⟨c4, c5, c6, c7⟩) ?_
  have lt_b1 := x_b1.lt
  have lt_b2 := x_b2.lt
  have lt_b3 := x_b3.lt
  have lt_b4 := x_b4.lt
  have lt_b5 := x_b5.lt
  intro w_8 hn
  replace lt_b1 := Nat.lt_of_lt_of_le lt_b1 hn.size
  replace lt_b2 := Nat.lt_of_lt_of_le lt_b2 hn.size
  replace lt_b3 := Nat.lt_of_lt_of_le lt_b3 hn.size
  replace lt_b4 := Nat.lt_of_lt_of_le lt_b4 hn.size
  replace lt_b5 := Nat.lt_of_lt_of_le lt_b5 hn.size
  replace ha1 := ha1.bl hn; replace ha2 := ha2.bl hn; replace hq1 := hq1.bl hn; replace hq2 := hq2.bl hn; replace x_b1 := x_b1.bl hn; replace x_b2 := x_b2.bl hn; replace x_b3 := x_b3.bl hn; replace x_b4 := x_b4.bl hn; replace g2 := g2.bl hn; replace x_b5 := x_b5.bl hn; replace hb := hb.trans (hn.mono hb.size)
  clear hn
  have kb0 := hb.size
  refine ⟨⟨x_b1.cell 0 rfl, x_b1.cell 1 rfl, x_b1.cell 2 rfl, x_b1.cell 3 rfl, x_b2.cell 0 rfl, x_b2.cell 1 rfl, x_b2.cell 2 rfl, x_b2.cell 3 rfl⟩, ?_⟩
  apply wpFl_ld rfl rfl; (case h1 => intro w' hC K hK; obtain ⟨c0, c1, c2, c3⟩ := hC; go_big_op; exact hK); iterate 4 kernel_rfl
  apply wpFl_ld rfl rfl; (case h1 => intro w' hC K hK; obtain ⟨c0, c1, c2, c3⟩ := hC; go_big_op; exact hK); iterate 4 kernel_rfl
  refine wpFl_call rfl (by kernel_rfl) fun w_9 hn hC => ?_; clear hC
  replace ha1 := ha1.bl hn; replace ha2 := ha2.bl hn; replace hq1 := hq1.bl hn; replace hq2 := hq2.bl hn; replace x_b1 := x_b1.bl hn; replace x_b2 := x_b2.bl hn; replace x_b3 := x_b3.bl hn; replace x_b4 := x_b4.bl hn; replace g2 := g2.bl hn; replace x_b5 := x_b5.bl hn; replace hb := hb.trans (hn.mono hb.size)
  clear hn; intro K hK
  go_big_op
  go_fit (rgConj_any (PN.mk' hq1 hq2) (by omega) (by omega) )
  rintro e w_10 ⟨_, rfl, ⟨n_g1a, o_g1a, k_g1a, c_g1a, n_g1b, o_g1b, k_g1b, c_g1b, rfl, g11, g12⟩, hb_10⟩
  replace ha1 := ha1.bl hb_10; replace ha2 := ha2.bl hb_10; replace hq1 := hq1.bl hb_10; replace hq2 := hq2.bl hb_10; replace x_b1 := x_b1.bl hb_10; replace x_b2 := x_b2.bl hb_10; replace x_b3 := x_b3.bl hb_10; replace x_b4 := x_b4.bl hb_10; replace g2 := g2.bl hb_10; replace x_b5 := x_b5.bl hb_10; replace hb := hb.trans (hb_10.mono hb.size)
  have Lg11 := hide (g11.lenOf ((hq1.len)))
  have Lg12 := hide (g12.lenOf (zlen_neg (hq2.len)))
  refine hK _ _ rfl hb_10 ⟨x_b1.cell 0 rfl, x_b1.cell 1 rfl, x_b1.cell 2 rfl, x_b1.cell 3 rfl, x_b2.cell 0 rfl, x_b2.cell 1 rfl, x_b2.cell 2 rfl, x_b2.cell 3 rfl⟩ ?_
  clear hK K hb_10
  refine wpFl_call rfl (by kernel_rfl) fun w_11 hn hC => ?_; clear hC
  replace ha1 := ha1.bl hn; replace ha2 := ha2.bl hn; replace hq1 := hq1.bl hn; replace hq2 := hq2.bl hn; replace x_b1 := x_b1.bl hn; replace x_b2 := x_b2.bl hn; replace x_b3 := x_b3.bl hn; replace x_b4 := x_b4.bl hn; replace g2 := g2.bl hn; replace x_b5 := x_b5.bl hn; replace g11 := g11.bl hn; replace g12 := g12.bl hn; replace hb := hb.trans (hn.mono hb.size)
  clear hn; intro K hK
  go_big_op
  go_fit (rgMul_any (PN.mk' ha1 ha2) (PN.mk' (g11.zn Lg11.out) (g12.zn Lg12.out)) (by omega) (by omega) (by omega) (by omega) )
  rintro e w_12 ⟨_, rfl, ⟨n_g0a, o_g0a, k_g0a, c_g0a, n_g0b, o_g0b, k_g0b, c_g0b, rfl, g01, g02⟩, hb_12⟩
  replace ha1 := ha1.bl hb_12; replace ha2 := ha2.bl hb_12; replace hq1 := hq1.bl hb_12; replace hq2 := hq2.bl hb_12; replace x_b1 := x_b1.bl hb_12; replace x_b2 := x_b2.bl hb_12; replace x_b3 := x_b3.bl hb_12; replace x_b4 := x_b4.bl hb_12; replace g2 := g2.bl hb_12; replace x_b5 := x_b5.bl hb_12; replace g11 := g11.bl hb_12; replace g12 := g12.bl hb_12; replace hb := hb.trans (hb_12.mono hb.size)
  have Lg01 := hide (g01.lenOf (zlen_sub (zlen_mul (ha1.len) (Lg11.out)) (zlen_mul (ha2.len) (Lg12.out))))
  have Lg02 := hide (g02.lenOf (zlen_add (zlen_mul (ha1.len) (Lg12.out)) (zlen_mul (ha2.len) (Lg11.out))))
  refine hK _ _ rfl hb_12 ⟨x_b1.cell 0 rfl, x_b1.cell 1 rfl, x_b1.cell 2 rfl, x_b1.cell 3 rfl, x_b2.cell 0 rfl, x_b2.cell 1 rfl, x_b2.cell 2 rfl, x_b2.cell 3 rfl⟩ ?_
  clear hK K hb_12
  apply wpFl_end
  case ha => intro pt; simp only [putF, nthO, Act.put, ptr, List.setIfInBounds_toArray, List.set_cons_succ, List.set_cons_zero]; rfl
  case h =>
  intro w_13 pt hn hC hF hD
  clear hC
  clear g11 g12
  replace ha1 := ha1.bl hn; replace ha2 := ha2.bl hn; replace hq1 := hq1.bl hn; replace hq2 := hq2.bl hn; replace x_b1 := x_b1.bl hn; replace x_b2 := x_b2.bl hn; replace x_b3 := x_b3.bl hn; replace x_b4 := x_b4.bl hn; replace g2 := g2.bl hn; replace x_b5 := x_b5.bl hn; replace g01 := g01.bl hn; replace g02 := g02.bl hn; replace hb := hb.trans (hn.mono hb.size)
  clear hn
  obtain ⟨kB_b6, x_b6⟩ := hF 4 (by decide)
  replace x_b6 : Bs w_13 (pt 4) #[.bool false, .slice none 0 0, .bool false, .slice none 0 0] 29 := x_b6
  clear hF hD
  generalize pt 4 = p_b6 at *
  clear pt
  have kb_b6 := hide (Nat.le_trans kb0 kB_b6)
  have ne_b1_b6 : Hid (p_b1 ≠ p_b6) := Nat.ne_of_lt (Nat.lt_of_lt_of_le lt_b1 kB_b6)
  have ne_b2_b6 : Hid (p_b2 ≠ p_b6) := Nat.ne_of_lt (Nat.lt_of_lt_of_le lt_b2 kB_b6)
  have ne_b3_b6 : Hid (p_b3 ≠ p_b6) := Nat.ne_of_lt (Nat.lt_of_lt_of_le lt_b3 kB_b6)
  have ne_b4_b6 : Hid (p_b4 ≠ p_b6) := Nat.ne_of_lt (Nat.lt_of_lt_of_le lt_b4 kB_b6)
  have ne_b5_b6 : Hid (p_b5 ≠ p_b6) := Nat.ne_of_lt (Nat.lt_of_lt_of_le lt_b5 kB_b6)
  clear kB_b6
  clear kb0 lt_b1 lt_b2 lt_b3 lt_b4 lt_b5
  refine wpTail_call rfl (by kernel_rfl) fun K hK => ?_
  obtain ⟨d0, d1, d2, d3⟩ := x_b6.f4
  have f0 := x_b6.free 0; have f1 := x_b6.free 1; have f2 := x_b6.free 2; have f3 := x_b6.free 3
  go_big_op
  have hnd := x_b6.nod rfl rfl
  obtain ⟨w_14, eW, x_b6', ho⟩ : ∃ w', ((((w_13.setCell ⟨p_b6, 0, none⟩ (.bool n_g0a)).setCell ⟨p_b6, 1, none⟩ (.slice o_g0a k_g0a c_g0a)).setCell ⟨p_b6, 2, none⟩ (.bool n_g0b)).setCell ⟨p_b6, 3, none⟩ (.slice o_g0b k_g0b c_g0b)) = w' ∧ Bs w' p_b6 #[.bool n_g0a, .slice o_g0a k_g0a c_g0a, .bool n_g0b, .slice o_g0b k_g0b c_g0b] 29 ∧ Only p_b6 w_13 w' := x_b6.setN [(0, .bool n_g0a), (1, .slice o_g0a k_g0a c_g0a), (2, .bool n_g0b), (3, .slice o_g0b k_g0b c_g0b)]
  rw [eW]; clear eW d0 d1 d2 d3 f0 f1 f2 f3 x_b6
  have x_b6 := x_b6'; clear x_b6'
  replace ha1 := ha1.fr hnd ho; replace ha2 := ha2.fr hnd ho; replace hq1 := hq1.fr hnd ho; replace hq2 := hq2.fr hnd ho; replace x_b1 := x_b1.frame ho ne_b1_b6; replace x_b2 := x_b2.frame ho ne_b2_b6; replace x_b3 := x_b3.frame ho ne_b3_b6; replace x_b4 := x_b4.frame ho ne_b4_b6; replace g2 := g2.fr hnd ho; replace x_b5 := x_b5.frame ho ne_b5_b6; replace g01 := g01.fr hnd ho; replace g02 := g02.fr hnd ho; replace hb := belowOnly hb ho kb_b6
  refine hK _ _ rfl (And.intro ⟨x_b1.cell 0 rfl, x_b1.cell 1 rfl, x_b1.cell 2 rfl, x_b1.cell 3 rfl⟩ (And.intro ⟨x_b2.cell 0 rfl, x_b2.cell 1 rfl, x_b2.cell 2 rfl, x_b2.cell 3 rfl⟩ True.intro)) ?_; clear hK K ho hnd
  apply wpTail_end
  refine hK3 _ _ ?_
  refine wp_seq_k ?_
  intro K4 hK4
  refine wp_region_sq [0, 1, 2, 3, 4, 5, 6, 7, 8, 9, 10] (by kernel_rfl) ?_
  refine wpSq_call rfl (by kernel_rfl) fun K hK => ?_
  go_big_op; refine hK _ _ rfl ?_; clear hK K
  refine wpSq_call rfl (by kernel_rfl) fun K hK => ?_
  obtain ⟨d0, d1, d2, d3⟩ := x_b6.f4
  go_big_op; refine hK _ _ rfl ?_; clear hK K d0 d1 d2 d3
  refine wpSq_call rfl (by kernel_rfl) fun K hK => ?_
  obtain ⟨d0, d1⟩ := x_b5.f2
  go_big_op; refine hK _ _ rfl ?_; clear hK K d0 d1
  refine wpSq_call rfl (by kernel_rfl) fun K hK => ?_
  go_big_op
  go_fit (rround_any (g01.zn Lg01.out) (g2.zn Lg2.out) (by omega) (by omega) H0.out)
  rintro e w_15 ⟨v_g3, v_g4, rfl, g3, g4, hb_15⟩
  replace ha1 := ha1.bl hb_15; replace ha2 := ha2.bl hb_15; replace hq1 := hq1.bl hb_15; replace hq2 := hq2.bl hb_15; replace x_b1 := x_b1.bl hb_15; replace x_b2 := x_b2.bl hb_15; replace x_b3 := x_b3.bl hb_15; replace x_b4 := x_b4.bl hb_15; replace g2 := g2.bl hb_15; replace x_b5 := x_b5.bl hb_15; replace g01 := g01.bl hb_15; replace g02 := g02.bl hb_15; replace x_b6 := x_b6.bl hb_15; replace hb := hb.trans (hb_15.mono hb.size)
  obtain ⟨n_g3, o_g3, k_g3, c_g3, rfl⟩ := g3.open2
  obtain ⟨n_g4, o_g4, k_g4, c_g4, rfl⟩ := g4.open2
  have Lg3 := hide (g3.lenOf (rnd_len (H0.out) (Lg01.out)))
  have Lg4 := hide (g4.lenOf (rrest_len (H0.out) (Lg2.out)))
  refine hK _ _ rfl ?_
  clear hK K hb_15
  refine wpSq_call rfl (by kernel_rfl) fun K hK => ?_
  go_big_move; refine hK _ _ rfl ?_; clear hK K
  refine wpSq_call rfl (by kernel_rfl) fun K hK => ?_
  go_big_op; refine hK _ _ rfl ?_; clear hK K
  refine wpSq_call rfl (by kernel_rfl) fun K hK => ?_
  go_big_op; refine hK _ _ rfl ?_; clear hK K
  refine wpSq_call rfl (by kernel_rfl) fun K hK => ?_
  go_big_op
  have lt_b1 := x_b1.lt
  have lt_b2 := x_b2.lt
  have lt_b3 := x_b3.lt
  have lt_b4 := x_b4.lt
  have lt_b5 := x_b5.lt
  have lt_b6 := x_b6.lt
  obtain ⟨p_b7, w_16, eP, eW, x_b7, hn, kb_b7⟩ := newBox w_15 #[.bool false, .slice none 0 0] 26 hb.size
  have ne_b1_b7 : Hid (p_b1 ≠ p_b7) := Nat.ne_of_lt (eP ▸ lt_b1)
  have ne_b2_b7 : Hid (p_b2 ≠ p_b7) := Nat.ne_of_lt (eP ▸ lt_b2)
  have ne_b3_b7 : Hid (p_b3 ≠ p_b7) := Nat.ne_of_lt (eP ▸ lt_b3)
  have ne_b4_b7 : Hid (p_b4 ≠ p_b7) := Nat.ne_of_lt (eP ▸ lt_b4)
  have ne_b5_b7 : Hid (p_b5 ≠ p_b7) := Nat.ne_of_lt (eP ▸ lt_b5)
  have ne_b6_b7 : Hid (p_b6 ≠ p_b7) := Nat.ne_of_lt (eP ▸ lt_b6)
  rw [eW, eP]
  clear eW eP lt_b1 lt_b2 lt_b3 lt_b4 lt_b5 lt_b6
  replace ha1 := ha1.bl hn; replace ha2 := ha2.bl hn; replace hq1 := hq1.bl hn; replace hq2 := hq2.bl hn; replace x_b1 := x_b1.bl hn; replace x_b2 := x_b2.bl hn; replace x_b3 := x_b3.bl hn; replace x_b4 := x_b4.bl hn; replace g2 := g2.bl hn; replace x_b5 := x_b5.bl hn; replace g01 := g01.bl hn; replace g02 := g02.bl hn; replace x_b6 := x_b6.bl hn; replace g3 := g3.bl hn; replace g4 := g4.bl hn; replace hb := hb.trans (hn.mono hb.size)
  refine hK _ _ rfl ?_; clear hK K hn
  refine wpSq_call rfl (by kernel_rfl) fun K hK => ?_
  go_big_op
  have lt_b1 := x_b1.lt
  have lt_b2 := x_b2.lt
  have lt_b3 := x_b3.lt
  have lt_b4 := x_b4.lt
  have lt_b5 := x_b5.lt
  have lt_b6 := x_b6.lt
  have lt_b7 := x_b7.lt
  obtain ⟨p_b8, w_17, eP, eW, x_b8, hn, kb_b8⟩ := newBox w_16 #[.bool false, .slice none 0 0] 26 hb.size
  have ne_b1_b8 : Hid (p_b1 ≠ p_b8) := Nat.ne_of_lt (eP ▸ lt_b1)
  have ne_b2_b8 : Hid (p_b2 ≠ p_b8) := Nat.ne_of_lt (eP ▸ lt_b2)
  have ne_b3_b8 : Hid (p_b3 ≠ p_b8) := Nat.ne_of_lt (eP ▸ lt_b3)
  have ne_b4_b8 : Hid (p_b4 ≠ p_b8) := Nat.ne_of_lt (eP ▸ lt_b4)
  have ne_b5_b8 : Hid (p_b5 ≠ p_b8) := Nat.ne_of_lt (eP ▸ lt_b5)
  have ne_b6_b8 : Hid (p_b6 ≠ p_b8) := Nat.ne_of_lt (eP ▸ lt_b6)
  have ne_b7_b8 : Hid (p_b7 ≠ p_b8) := Nat.ne_of_lt (eP ▸ lt_b7)
  rw [eW, eP]
  clear eW eP lt_b1 lt_b2 lt_b3 lt_b4 lt_b5 lt_b6 lt_b7
  replace ha1 := ha1.bl hn; replace ha2 := ha2.bl hn; replace hq1 := hq1.bl hn; replace hq2 := hq2.bl hn; replace x_b1 := x_b1.bl hn; replace x_b2 := x_b2.bl hn; replace x_b3 := x_b3.bl hn; replace x_b4 := x_b4.bl hn; replace g2 := g2.bl hn; replace x_b5 := x_b5.bl hn; replace g01 := g01.bl hn; replace g02 := g02.bl hn; replace x_b6 := x_b6.bl hn; replace g3 := g3.bl hn; replace g4 := g4.bl hn; replace x_b7 := x_b7.bl hn; replace hb := hb.trans (hn.mono hb.size)
  refine hK _ _ rfl ?_; clear hK K hn
  refine wpSq_call rfl (by kernel_rfl) fun K hK => ?_
  obtain ⟨d0, d1⟩ := x_b7.f2
  have f0 := x_b7.free 0; have f1 := x_b7.free 1
  go_big_op
  have hnd := x_b7.nod rfl rfl
  obtain ⟨w_18, eW, x_b7', ho⟩ : ∃ w', ((w_17.setCell ⟨p_b7, 0, none⟩ (.bool n_g3)).setCell ⟨p_b7, 1, none⟩ (.slice o_g3 k_g3 c_g3)) = w' ∧ Bs w' p_b7 #[.bool n_g3, .slice o_g3 k_g3 c_g3] 26 ∧ Only p_b7 w_17 w' := x_b7.setN [(0, .bool n_g3), (1, .slice o_g3 k_g3 c_g3)]
  rw [eW]; clear eW d0 d1 f0 f1 x_b7
  have x_b7 := x_b7'; clear x_b7'
  replace ha1 := ha1.fr hnd ho; replace ha2 := ha2.fr hnd ho; replace hq1 := hq1.fr hnd ho; replace hq2 := hq2.fr hnd ho; replace x_b1 := x_b1.frame ho ne_b1_b7; replace x_b2 := x_b2.frame ho ne_b2_b7; replace x_b3 := x_b3.frame ho ne_b3_b7; replace x_b4 := x_b4.frame ho ne_b4_b7; replace g2 := g2.fr hnd ho; replace x_b5 := x_b5.frame ho ne_b5_b7; replace g01 := g01.fr hnd ho; replace g02 := g02.fr hnd ho; replace x_b6 := x_b6.frame ho ne_b6_b7; replace g3 := g3.fr hnd ho; replace g4 := g4.fr hnd ho; replace x_b8 := x_b8.frame ho ne_b7_b8.symm; replace hb := belowOnly hb ho kb_b7
  refine hK _ _ rfl ?_; clear hK K ho hnd
  refine wpSq_call rfl (by kernel_rfl) fun K hK => ?_
  obtain ⟨d0, d1⟩ := x_b8.f2
  have f0 := x_b8.free 0; have f1 := x_b8.free 1
  go_big_op
  have hnd := x_b8.nod rfl rfl
  obtain ⟨w_19, eW, x_b8', ho⟩ : ∃ w', ((w_18.setCell ⟨p_b8, 0, none⟩ (.bool n_g4)).setCell ⟨p_b8, 1, none⟩ (.slice o_g4 k_g4 c_g4)) = w' ∧ Bs w' p_b8 #[.bool n_g4, .slice o_g4 k_g4 c_g4] 26 ∧ Only p_b8 w_18 w' := x_b8.setN [(0, .bool n_g4), (1, .slice o_g4 k_g4 c_g4)]
  rw [eW]; clear eW d0 d1 f0 f1 x_b8
  have x_b8 := x_b8'; clear x_b8'
  replace ha1 := ha1.fr hnd ho; replace ha2 := ha2.fr hnd ho; replace hq1 := hq1.fr hnd ho; replace hq2 := hq2.fr hnd ho; replace x_b1 := x_b1.frame ho ne_b1_b8; replace x_b2 := x_b2.frame ho ne_b2_b8; replace x_b3 := x_b3.frame ho ne_b3_b8; replace x_b4 := x_b4.frame ho ne_b4_b8; replace g2 := g2.fr hnd ho; replace x_b5 := x_b5.frame ho ne_b5_b8; replace g01 := g01.fr hnd ho; replace g02 := g02.fr hnd ho; replace x_b6 := x_b6.frame ho ne_b6_b8; replace g3 := g3.fr hnd ho; replace g4 := g4.fr hnd ho; replace x_b7 := x_b7.frame ho ne_b7_b8; replace hb := belowOnly hb ho kb_b8
  refine hK _ _ rfl ?_; clear hK K ho hnd
  apply wpSq_end
  refine hK4 _ _ ?_
  refine wp_seq_k ?_
  intro K5 hK5
  refine wp_region_sq [0, 1, 2, 3, 4, 5, 6, 7, 8, 9, 10] (by kernel_rfl) ?_
  refine wpSq_call rfl (by kernel_rfl) fun K hK => ?_
  go_big_op; refine hK _ _ rfl ?_; clear hK K
  refine wpSq_call rfl (by kernel_rfl) fun K hK => ?_
  obtain ⟨d0, d1, d2, d3⟩ := x_b6.f4
  go_big_op; refine hK _ _ rfl ?_; clear hK K d0 d1 d2 d3
  refine wpSq_call rfl (by kernel_rfl) fun K hK => ?_
  obtain ⟨d0, d1⟩ := x_b5.f2
  go_big_op; refine hK _ _ rfl ?_; clear hK K d0 d1
  refine wpSq_call rfl (by kernel_rfl) fun K hK => ?_
  go_big_op
  go_fit (rround_any (g02.zn Lg02.out) (g2.zn Lg2.out) (by omega) (by omega) H0.out)
  rintro e w_20 ⟨v_g5, v_g6, rfl, g5, g6, hb_20⟩
  clear x_b5 g01 x_b6 g4 x_b8
  replace ha1 := ha1.bl hb_20; replace ha2 := ha2.bl hb_20; replace hq1 := hq1.bl hb_20; replace hq2 := hq2.bl hb_20; replace x_b1 := x_b1.bl hb_20; replace x_b2 := x_b2.bl hb_20; replace x_b3 := x_b3.bl hb_20; replace x_b4 := x_b4.bl hb_20; replace g2 := g2.bl hb_20; replace g02 := g02.bl hb_20; replace g3 := g3.bl hb_20; replace x_b7 := x_b7.bl hb_20; replace hb := hb.trans (hb_20.mono hb.size)
  obtain ⟨n_g5, o_g5, k_g5, c_g5, rfl⟩ := g5.open2
  obtain ⟨n_g6, o_g6, k_g6, c_g6, rfl⟩ := g6.open2
  have Lg5 := hide (g5.lenOf (rnd_len (H0.out) (Lg02.out)))
  have Lg6 := hide (g6.lenOf (rrest_len (H0.out) (Lg2.out)))
  refine hK _ _ rfl ?_
  clear hK K hb_20
  refine wpSq_call rfl (by kernel_rfl) fun K hK => ?_
  go_big_move; refine hK _ _ rfl ?_; clear hK K
  refine wpSq_call rfl (by kernel_rfl) fun K hK => ?_
  go_big_op; refine hK _ _ rfl ?_; clear hK K
  refine wpSq_call rfl (by kernel_rfl) fun K hK => ?_
  go_big_op; refine hK _ _ rfl ?_; clear hK K
  refine wpSq_call rfl (by kernel_rfl) fun K hK => ?_
  go_big_op
  clear g2 g02
  have lt_b1 := x_b1.lt
  have lt_b2 := x_b2.lt
  have lt_b3 := x_b3.lt
  have lt_b4 := x_b4.lt
  have lt_b7 := x_b7.lt
  obtain ⟨p_b9, w_21, eP, eW, x_b9, hn, kb_b9⟩ := newBox w_20 #[.bool false, .slice none 0 0] 26 hb.size
  have ne_b1_b9 : Hid (p_b1 ≠ p_b9) := Nat.ne_of_lt (eP ▸ lt_b1)
  have ne_b2_b9 : Hid (p_b2 ≠ p_b9) := Nat.ne_of_lt (eP ▸ lt_b2)
  have ne_b3_b9 : Hid (p_b3 ≠ p_b9) := Nat.ne_of_lt (eP ▸ lt_b3)
  have ne_b4_b9 : Hid (p_b4 ≠ p_b9) := Nat.ne_of_lt (eP ▸ lt_b4)
  have ne_b7_b9 : Hid (p_b7 ≠ p_b9) := Nat.ne_of_lt (eP ▸ lt_b7)
  rw [eW, eP]
  clear eW eP lt_b1 lt_b2 lt_b3 lt_b4 lt_b7
  replace ha1 := ha1.bl hn; replace ha2 := ha2.bl hn; replace hq1 := hq1.bl hn; replace hq2 := hq2.bl hn; replace x_b1 := x_b1.bl hn; replace x_b2 := x_b2.bl hn; replace x_b3 := x_b3.bl hn; replace x_b4 := x_b4.bl hn; replace g3 := g3.bl hn; replace x_b7 := x_b7.bl hn; replace g5 := g5.bl hn; replace g6 := g6.bl hn; replace hb := hb.trans (hn.mono hb.size)
  refine hK _ _ rfl ?_; clear hK K hn
  refine wpSq_call rfl (by kernel_rfl) fun K hK => ?_
  go_big_op
  have lt_b1 := x_b1.lt
  have lt_b2 := x_b2.lt
  have lt_b3 := x_b3.lt
  have lt_b4 := x_b4.lt
  have lt_b7 := x_b7.lt
  have lt_b9 := x_b9.lt
  obtain ⟨p_b10, w_22, eP, eW, x_b10, hn, kb_b10⟩ := newBox w_21 #[.bool false, .slice none 0 0] 26 hb.size
  have ne_b1_b10 : Hid (p_b1 ≠ p_b10) := Nat.ne_of_lt (eP ▸ lt_b1)
  have ne_b2_b10 : Hid (p_b2 ≠ p_b10) := Nat.ne_of_lt (eP ▸ lt_b2)
  have ne_b3_b10 : Hid (p_b3 ≠ p_b10) := Nat.ne_of_lt (eP ▸ lt_b3)
  have ne_b4_b10 : Hid (p_b4 ≠ p_b10) := Nat.ne_of_lt (eP ▸ lt_b4)
  have ne_b7_b10 : Hid (p_b7 ≠ p_b10) := Nat.ne_of_lt (eP ▸ lt_b7)
  have ne_b9_b10 : Hid (p_b9 ≠ p_b10) := Nat.ne_of_lt (eP ▸ lt_b9)
  rw [eW, eP]
  clear eW eP lt_b1 lt_b2 lt_b3 lt_b4 lt_b7 lt_b9
  replace ha1 := ha1.bl hn; replace ha2 := ha2.bl hn; replace hq1 := hq1.bl hn; replace hq2 := hq2.bl hn; replace x_b1 := x_b1.bl hn; replace x_b2 := x_b2.bl hn; replace x_b3 := x_b3.bl hn; replace x_b4 := x_b4.bl hn; replace g3 := g3.bl hn; replace x_b7 := x_b7.bl hn; replace g5 := g5.bl hn; replace g6 := g6.bl hn; replace x_b9 := x_b9.bl hn; replace hb := hb.trans (hn.mono hb.size)
  refine hK _ _ rfl ?_; clear hK K hn
  refine wpSq_call rfl (by kernel_rfl) fun K hK => ?_
  obtain ⟨d0, d1⟩ := x_b9.f2
  have f0 := x_b9.free 0; have f1 := x_b9.free 1
  go_big_op
  have hnd := x_b9.nod rfl rfl
  obtain ⟨w_23, eW, x_b9', ho⟩ : ∃ w', ((w_22.setCell ⟨p_b9, 0, none⟩ (.bool n_g5)).setCell ⟨p_b9, 1, none⟩ (.slice o_g5 k_g5 c_g5)) = w' ∧ Bs w' p_b9 #[.bool n_g5, .slice o_g5 k_g5 c_g5] 26 ∧ Only p_b9 w_22 w' := x_b9.setN [(0, .bool n_g5), (1, .slice o_g5 k_g5 c_g5)]
  rw [eW]; clear eW d0 d1 f0 f1 x_b9
  have x_b9 := x_b9'; clear x_b9'
  replace ha1 := ha1.fr hnd ho; replace ha2 := ha2.fr hnd ho; replace hq1 := hq1.fr hnd ho; replace hq2 := hq2.fr hnd ho; replace x_b1 := x_b1.frame ho ne_b1_b9; replace x_b2 := x_b2.frame ho ne_b2_b9; replace x_b3 := x_b3.frame ho ne_b3_b9; replace x_b4 := x_b4.frame ho ne_b4_b9; replace g3 := g3.fr hnd ho; replace x_b7 := x_b7.frame ho ne_b7_b9; replace g5 := g5.fr hnd ho; replace g6 := g6.fr hnd ho; replace x_b10 := x_b10.frame ho ne_b9_b10.symm; replace hb := belowOnly hb ho kb_b9
  refine hK _ _ rfl ?_; clear hK K ho hnd
  refine wpSq_call rfl (by kernel_rfl) fun K hK => ?_
  obtain ⟨d0, d1⟩ := x_b10.f2
  have f0 := x_b10.free 0; have f1 := x_b10.free 1
  go_big_op
  have hnd := x_b10.nod rfl rfl
  obtain ⟨w_24, eW, x_b10', ho⟩ : ∃ w', ((w_23.setCell ⟨p_b10, 0, none⟩ (.bool n_g6)).setCell ⟨p_b10, 1, none⟩ (.slice o_g6 k_g6 c_g6)) = w' ∧ Bs w' p_b10 #[.bool n_g6, .slice o_g6 k_g6 c_g6] 26 ∧ Only p_b10 w_23 w' := x_b10.setN [(0, .bool n_g6), (1, .slice o_g6 k_g6 c_g6)]
  rw [eW]; clear eW d0 d1 f0 f1 x_b10
  have x_b10 := x_b10'; clear x_b10'
  replace ha1 := ha1.fr hnd ho; replace ha2 := ha2.fr hnd ho; replace hq1 := hq1.fr hnd ho; replace hq2 := hq2.fr hnd ho; replace x_b1 := x_b1.frame ho ne_b1_b10; replace x_b2 := x_b2.frame ho ne_b2_b10; replace x_b3 := x_b3.frame ho ne_b3_b10; replace x_b4 := x_b4.frame ho ne_b4_b10; replace g3 := g3.fr hnd ho; replace x_b7 := x_b7.frame ho ne_b7_b10; replace g5 := g5.fr hnd ho; replace g6 := g6.fr hnd ho; replace x_b9 := x_b9.frame ho ne_b9_b10; replace hb := belowOnly hb ho kb_b10
  refine hK _ _ rfl ?_; clear hK K ho hnd
  apply wpSq_end
  refine hK5 _ _ ?_
  refine wp_seq_k ?_
  intro K6 hK6
  refine wp_region_sq [0, 1, 2, 3, 4] (by kernel_rfl) ?_
  refine wpSq_call rfl (by kernel_rfl) fun K hK => ?_
  obtain ⟨d0, d1⟩ := x_b7.f2
  go_big_op; refine hK _ _ rfl ?_; clear hK K d0 d1
  refine wpSq_call rfl (by kernel_rfl) fun K hK => ?_
  obtain ⟨d0, d1⟩ := x_b9.f2
  go_big_op; refine hK _ _ rfl ?_; clear hK K d0 d1
  refine wpSq_call rfl (by kernel_rfl) fun K hK => ?_
  go_big_op; refine hK _ _ rfl ?_; clear hK K
  refine wpSq_call rfl (by kernel_rfl) fun K hK => ?_
  go_big_op
  clear x_b7 g6 x_b9 x_b10
  have lt_b1 := x_b1.lt
  have lt_b2 := x_b2.lt
  have lt_b3 := x_b3.lt
  have lt_b4 := x_b4.lt
  obtain ⟨p_b11, w_25, eP, eW, x_b11, hn, kb_b11⟩ := newBox w_24 #[.bool false, .slice none 0 0, .bool false, .slice none 0 0] 29 hb.size
  have ne_b1_b11 : Hid (p_b1 ≠ p_b11) := Nat.ne_of_lt (eP ▸ lt_b1)
  have ne_b2_b11 : Hid (p_b2 ≠ p_b11) := Nat.ne_of_lt (eP ▸ lt_b2)
  have ne_b3_b11 : Hid (p_b3 ≠ p_b11) := Nat.ne_of_lt (eP ▸ lt_b3)
  have ne_b4_b11 : Hid (p_b4 ≠ p_b11) := Nat.ne_of_lt (eP ▸ lt_b4)
  rw [eW, eP]
  clear eW eP lt_b1 lt_b2 lt_b3 lt_b4
  replace ha1 := ha1.bl hn; replace ha2 := ha2.bl hn; replace hq1 := hq1.bl hn; replace hq2 := hq2.bl hn; replace x_b1 := x_b1.bl hn; replace x_b2 := x_b2.bl hn; replace x_b3 := x_b3.bl hn; replace x_b4 := x_b4.bl hn; replace g3 := g3.bl hn; replace g5 := g5.bl hn; replace hb := hb.trans (hn.mono hb.size)
  refine hK _ _ rfl ?_; clear hK K hn
  refine wpSq_call rfl (by kernel_rfl) fun K hK => ?_
  obtain ⟨d0, d1, d2, d3⟩ := x_b11.f4
  have f0 := x_b11.free 0; have f1 := x_b11.free 1; have f2 := x_b11.free 2; have f3 := x_b11.free 3
  go_big_op
  have hnd := x_b11.nod rfl rfl
  obtain ⟨w_26, eW, x_b11', ho⟩ : ∃ w', ((((w_25.setCell ⟨p_b11, 0, none⟩ (.bool n_g3)).setCell ⟨p_b11, 1, none⟩ (.slice o_g3 k_g3 c_g3)).setCell ⟨p_b11, 2, none⟩ (.bool n_g5)).setCell ⟨p_b11, 3, none⟩ (.slice o_g5 k_g5 c_g5)) = w' ∧ Bs w' p_b11 #[.bool n_g3, .slice o_g3 k_g3 c_g3, .bool n_g5, .slice o_g5 k_g5 c_g5] 29 ∧ Only p_b11 w_25 w' := x_b11.setN [(0, .bool n_g3), (1, .slice o_g3 k_g3 c_g3), (2, .bool n_g5), (3, .slice o_g5 k_g5 c_g5)]
  rw [eW]; clear eW d0 d1 d2 d3 f0 f1 f2 f3 x_b11
  have x_b11 := x_b11'; clear x_b11'
  replace ha1 := ha1.fr hnd ho; replace ha2 := ha2.fr hnd ho; replace hq1 := hq1.fr hnd ho; replace hq2 := hq2.fr hnd ho; replace x_b1 := x_b1.frame ho ne_b1_b11; replace x_b2 := x_b2.frame ho ne_b2_b11; replace x_b3 := x_b3.frame ho ne_b3_b11; replace x_b4 := x_b4.frame ho ne_b4_b11; replace g3 := g3.fr hnd ho; replace g5 := g5.fr hnd ho; replace hb := belowOnly hb ho kb_b11
  refine hK _ _ rfl ?_; clear hK K ho hnd
  apply wpSq_end
  refine hK6 _ _ ?_
  refine wp_seq_k ?_
  intro K7 hK7
  refine wp_region_fl2 [(0, false), (1, false), (2, false), (3, false), (4, true), (5, true)] [6, 7] [] (fun _ => default) [0, 1, 0, 2, 99, 99, 99, 99] [] (fun w' => w'.cell? ⟨p_b11, 0, none⟩ = some (.bool n_g3) ∧ w'.cell? ⟨p_b11, 1, none⟩ = some (.slice o_g3 k_g3 c_g3) ∧ w'.cell? ⟨p_b11, 2, none⟩ = some (.bool n_g5) ∧ w'.cell? ⟨p_b11, 3, none⟩ = some (.slice o_g5 k_g5 c_g5) ∧ w'.cell? ⟨p_b1, 0, none⟩ = some (.bool n_0a) ∧ w'.cell? ⟨p_b1, 1, none⟩ = some (.slice o_0a k_0a c_0a) ∧ w'.cell? ⟨p_b1, 2, none⟩ = some (.bool n_0b) ∧ w'.cell? ⟨p_b1, 3, none⟩ = some (.slice o_0b k_0b c_0b) ∧ w'.cell? ⟨p_b2, 0, none⟩ = some (.bool n_1a) ∧ w'.cell? ⟨p_b2, 1, none⟩ = some (.slice o_1a k_1a c_1a) ∧ w'.cell? ⟨p_b2, 2, none⟩ = some (.bool n_1b) ∧ w'.cell? ⟨p_b2, 3, none⟩ = some (.slice o_1b k_1b c_1b)) [fun w' => w'.cell? ⟨p_b11, 0, none⟩ = some (.bool n_g3) ∧ w'.cell? ⟨p_b11, 1, none⟩ = some (.slice o_g3 k_g3 c_g3) ∧ w'.cell? ⟨p_b11, 2, none⟩ = some (.bool n_g5) ∧ w'.cell? ⟨p_b11, 3, none⟩ = some (.slice o_g5 k_g5 c_g5), fun w' => w'.cell? ⟨p_b1, 0, none⟩ = some (.bool n_0a) ∧ w'.cell? ⟨p_b1, 1, none⟩ = some (.slice o_0a k_0a c_0a) ∧ w'.cell? ⟨p_b1, 2, none⟩ = some (.bool n_0b) ∧ w'.cell? ⟨p_b1, 3, none⟩ = some (.slice o_0b k_0b c_0b), fun w' => w'.cell? ⟨p_b2, 0, none⟩ = some (.bool n_1a) ∧ w'.cell? ⟨p_b2, 1, none⟩ = some (.slice o_1a k_1a c_1a) ∧ w'.cell? ⟨p_b2, 2, none⟩ = some (.bool n_1b) ∧ w'.cell? ⟨p_b2, 3, none⟩ = some (.slice o_1b k_1b c_1b)] (by kernel_rfl) (by kernel_rfl) (by kernel_rfl) (by kernel_rfl) (by kernel_rfl) (by kernel_rfl) (by kernel_rfl) (by kernel_rfl) (by decide) (by intro j hj; cases hj) (by intro w' o hC; obtain ⟨c0, c1, c2, c3, c4, c5, c6, c7, c8, c9, c10, c11⟩ := hC; exact ⟨cell_alloc c0 o, cell_alloc c1 o, cell_alloc c2 o, cell_alloc c3 o, cell_alloc c4 o, cell_alloc c5 o, cell_alloc c6 o, cell_alloc c7 o, cell_alloc c8 o, cell_alloc c9 o, cell_alloc c10 o, cell_alloc c11 o⟩) (by intro w' hC G hG; obtain ⟨c0, c1, c2, c3, c4, c5, c6, c7, c8, c9, c10, c11⟩ := hC; simp only [List.mem_cons, List.not_mem_nil, or_false] at hG; rcases hG with rfl | rfl | rfl <;> first | exact ⟨c0, c1, c2, c3⟩ | exact ⟨c4, c5, c6, c7⟩ | exact ⟨c8, c9, c10, c11⟩) ?_
  have lt_b1 := x_b1.lt
  have lt_b2 := x_b2.lt
  have lt_b3 := x_b3.lt
  have lt_b4 := x_b4.lt
  have lt_b11 := x_b11.lt
  intro w_27 hn
  replace lt_b1 := Nat.lt_of_lt_of_le lt_b1 hn.size
  replace lt_b2 := Nat.lt_of_lt_of_le lt_b2 hn.size
  replace lt_b3 := Nat.lt_of_lt_of_le lt_b3 hn.size
  replace lt_b4 := Nat.lt_of_lt_of_le lt_b4 hn.size
  replace lt_b11 := Nat.lt_of_lt_of_le lt_b11 hn.size
  replace ha1 := ha1.bl hn; replace ha2 := ha2.bl hn; replace hq1 := hq1.bl hn; replace hq2 := hq2.bl hn; replace x_b1 := x_b1.bl hn; replace x_b2 := x_b2.bl hn; replace x_b3 := x_b3.bl hn; replace x_b4 := x_b4.bl hn; replace g3 := g3.bl hn; replace g5 := g5.bl hn; replace x_b11 := x_b11.bl hn; replace hb := hb.trans (hn.mono hb.size)
  clear hn
  have kb0 := hb.size
  refine ⟨⟨x_b11.cell 0 rfl, x_b11.cell 1 rfl, x_b11.cell 2 rfl, x_b11.cell 3 rfl, x_b1.cell 0 rfl, x_b1.cell 1 rfl, x_b1.cell 2 rfl, x_b1.cell 3 rfl, x_b2.cell 0 rfl, x_b2.cell 1 rfl, x_b2.cell 2 rfl, x_b2.cell 3 rfl⟩, ?_⟩
  apply wpFl_ld rfl rfl; (case h1 => intro w' hC K hK; obtain ⟨c0, c1, c2, c3⟩ := hC; go_big_op; exact hK); iterate 4 kernel_rfl
  apply wpFl_ld rfl rfl; (case h1 => intro w' hC K hK; obtain ⟨c0, c1, c2, c3⟩ := hC; go_big_op; exact hK); iterate 4 kernel_rfl
  apply wpFl_ld rfl rfl; (case h1 => intro w' hC K hK; obtain ⟨c0, c1, c2, c3⟩ := hC; go_big_op; exact hK); iterate 4 kernel_rfl
  apply wpFl_ld rfl rfl; (case h1 => intro w' hC K hK; obtain ⟨c0, c1, c2, c3⟩ := hC; go_big_op; exact hK); iterate 4 kernel_rfl
  refine wpFl_call rfl (by kernel_rfl) fun w_28 hn hC => ?_; clear hC
  replace ha1 := ha1.bl hn; replace ha2 := ha2.bl hn; replace hq1 := hq1.bl hn; replace hq2 := hq2.bl hn; replace x_b1 := x_b1.bl hn; replace x_b2 := x_b2.bl hn; replace x_b3 := x_b3.bl hn; replace x_b4 := x_b4.bl hn; replace g3 := g3.bl hn; replace g5 := g5.bl hn; replace x_b11 := x_b11.bl hn; replace hb := hb.trans (hn.mono hb.size)
  clear hn; intro K hK
  go_big_op
  go_fit (rgMul_any (PN.mk' (g3.zn Lg3.out) (g5.zn Lg5.out)) (PN.mk' hq1 hq2) (by omega) (by omega) (by omega) (by omega) )
  rintro e w_29 ⟨_, rfl, ⟨n_g7a, o_g7a, k_g7a, c_g7a, n_g7b, o_g7b, k_g7b, c_g7b, rfl, g71, g72⟩, hb_29⟩
  replace ha1 := ha1.bl hb_29; replace ha2 := ha2.bl hb_29; replace hq1 := hq1.bl hb_29; replace hq2 := hq2.bl hb_29; replace x_b1 := x_b1.bl hb_29; replace x_b2 := x_b2.bl hb_29; replace x_b3 := x_b3.bl hb_29; replace x_b4 := x_b4.bl hb_29; replace g3 := g3.bl hb_29; replace g5 := g5.bl hb_29; replace x_b11 := x_b11.bl hb_29; replace hb := hb.trans (hb_29.mono hb.size)
  have Lg71 := hide (g71.lenOf (zlen_sub (zlen_mul (Lg3.out) (hq1.len)) (zlen_mul (Lg5.out) (hq2.len))))
  have Lg72 := hide (g72.lenOf (zlen_add (zlen_mul (Lg3.out) (hq2.len)) (zlen_mul (Lg5.out) (hq1.len))))
  refine hK _ _ rfl hb_29 ⟨x_b11.cell 0 rfl, x_b11.cell 1 rfl, x_b11.cell 2 rfl, x_b11.cell 3 rfl, x_b1.cell 0 rfl, x_b1.cell 1 rfl, x_b1.cell 2 rfl, x_b1.cell 3 rfl, x_b2.cell 0 rfl, x_b2.cell 1 rfl, x_b2.cell 2 rfl, x_b2.cell 3 rfl⟩ ?_
  clear hK K hb_29
  refine wpFl_call rfl (by kernel_rfl) fun w_30 hn hC => ?_; clear hC
  replace ha1 := ha1.bl hn; replace ha2 := ha2.bl hn; replace hq1 := hq1.bl hn; replace hq2 := hq2.bl hn; replace x_b1 := x_b1.bl hn; replace x_b2 := x_b2.bl hn; replace x_b3 := x_b3.bl hn; replace x_b4 := x_b4.bl hn; replace g3 := g3.bl hn; replace g5 := g5.bl hn; replace x_b11 := x_b11.bl hn; replace g71 := g71.bl hn; replace g72 := g72.bl hn; replace hb := hb.trans (hn.mono hb.size)
  clear hn; intro K hK
  go_big_op
  go_fit (rgSub_any (PN.mk' ha1 ha2) (PN.mk' (g71.zn Lg71.out) (g72.zn Lg72.out)) (by omega) (by omega) (by omega) (by omega) )
  rintro e w_31 ⟨_, rfl, ⟨n_g8a, o_g8a, k_g8a, c_g8a, n_g8b, o_g8b, k_g8b, c_g8b, rfl, g81, g82⟩, hb_31⟩
  replace ha1 := ha1.bl hb_31; replace ha2 := ha2.bl hb_31; replace hq1 := hq1.bl hb_31; replace hq2 := hq2.bl hb_31; replace x_b1 := x_b1.bl hb_31; replace x_b2 := x_b2.bl hb_31; replace x_b3 := x_b3.bl hb_31; replace x_b4 := x_b4.bl hb_31; replace g3 := g3.bl hb_31; replace g5 := g5.bl hb_31; replace x_b11 := x_b11.bl hb_31; replace g71 := g71.bl hb_31; replace g72 := g72.bl hb_31; replace hb := hb.trans (hb_31.mono hb.size)
  have Lg81 := hide (g81.lenOf (zlen_sub (ha1.len) (Lg71.out)))
  have Lg82 := hide (g82.lenOf (zlen_sub (ha2.len) (Lg72.out)))
  refine hK _ _ rfl hb_31 ⟨x_b11.cell 0 rfl, x_b11.cell 1 rfl, x_b11.cell 2 rfl, x_b11.cell 3 rfl, x_b1.cell 0 rfl, x_b1.cell 1 rfl, x_b1.cell 2 rfl, x_b1.cell 3 rfl, x_b2.cell 0 rfl, x_b2.cell 1 rfl, x_b2.cell 2 rfl, x_b2.cell 3 rfl⟩ ?_
  clear hK K hb_31
  apply wpFl_end
  case ha => intro pt; simp only [putF]; rfl
  case h =>
  intro w_32 pt hn hC hF hD
  clear hC
  clear g71 g72
  replace ha1 := ha1.bl hn; replace ha2 := ha2.bl hn; replace hq1 := hq1.bl hn; replace hq2 := hq2.bl hn; replace x_b1 := x_b1.bl hn; replace x_b2 := x_b2.bl hn; replace x_b3 := x_b3.bl hn; replace x_b4 := x_b4.bl hn; replace g3 := g3.bl hn; replace g5 := g5.bl hn; replace x_b11 := x_b11.bl hn; replace g81 := g81.bl hn; replace g82 := g82.bl hn; replace hb := hb.trans (hn.mono hb.size)
  clear hn
  clear hF hD
  clear pt
  clear kb0 lt_b1 lt_b2 lt_b3 lt_b4 lt_b11
  refine wpTail_call rfl (by kernel_rfl) fun K hK => ?_
  obtain ⟨d0, d1, d2, d3⟩ := x_b3.f4
  have f0 := x_b3.free 0; have f1 := x_b3.free 1; have f2 := x_b3.free 2; have f3 := x_b3.free 3
  go_big_op
  have hnd := x_b3.nod rfl rfl
  obtain ⟨w_33, eW, x_b3', ho⟩ : ∃ w', ((((w_32.setCell ⟨p_b3, 0, none⟩ (.bool n_g3)).setCell ⟨p_b3, 1, none⟩ (.slice o_g3 k_g3 c_g3)).setCell ⟨p_b3, 2, none⟩ (.bool n_g5)).setCell ⟨p_b3, 3, none⟩ (.slice o_g5 k_g5 c_g5)) = w' ∧ Bs w' p_b3 #[.bool n_g3, .slice o_g3 k_g3 c_g3, .bool n_g5, .slice o_g5 k_g5 c_g5] 29 ∧ Only p_b3 w_32 w' := x_b3.setN [(0, .bool n_g3), (1, .slice o_g3 k_g3 c_g3), (2, .bool n_g5), (3, .slice o_g5 k_g5 c_g5)]
  rw [eW]; clear eW d0 d1 d2 d3 f0 f1 f2 f3 x_b3
  have x_b3 := x_b3'; clear x_b3'
  replace ha1 := ha1.fr hnd ho; replace ha2 := ha2.fr hnd ho; replace hq1 := hq1.fr hnd ho; replace hq2 := hq2.fr hnd ho; replace x_b1 := x_b1.frame ho ne_b1_b3; replace x_b2 := x_b2.frame ho ne_b2_b3; replace x_b4 := x_b4.frame ho ne_b3_b4.symm; replace g3 := g3.fr hnd ho; replace g5 := g5.fr hnd ho; replace x_b11 := x_b11.frame ho ne_b3_b11.symm; replace g81 := g81.fr hnd ho; replace g82 := g82.fr hnd ho; replace hb := belowOnly hb ho kb_b3
  refine hK _ _ rfl (And.intro ⟨x_b11.cell 0 rfl, x_b11.cell 1 rfl, x_b11.cell 2 rfl, x_b11.cell 3 rfl⟩ (And.intro ⟨x_b1.cell 0 rfl, x_b1.cell 1 rfl, x_b1.cell 2 rfl, x_b1.cell 3 rfl⟩ (And.intro ⟨x_b2.cell 0 rfl, x_b2.cell 1 rfl, x_b2.cell 2 rfl, x_b2.cell 3 rfl⟩ True.intro))) ?_; clear hK K ho hnd
  refine wpTail_call rfl (by kernel_rfl) fun K hK => ?_
  obtain ⟨d0, d1, d2, d3⟩ := x_b4.f4
  have f0 := x_b4.free 0; have f1 := x_b4.free 1; have f2 := x_b4.free 2; have f3 := x_b4.free 3
  go_big_op
  have hnd := x_b4.nod rfl rfl
  obtain ⟨w_34, eW, x_b4', ho⟩ : ∃ w', ((((w_33.setCell ⟨p_b4, 0, none⟩ (.bool n_g8a)).setCell ⟨p_b4, 1, none⟩ (.slice o_g8a k_g8a c_g8a)).setCell ⟨p_b4, 2, none⟩ (.bool n_g8b)).setCell ⟨p_b4, 3, none⟩ (.slice o_g8b k_g8b c_g8b)) = w' ∧ Bs w' p_b4 #[.bool n_g8a, .slice o_g8a k_g8a c_g8a, .bool n_g8b, .slice o_g8b k_g8b c_g8b] 29 ∧ Only p_b4 w_33 w' := x_b4.setN [(0, .bool n_g8a), (1, .slice o_g8a k_g8a c_g8a), (2, .bool n_g8b), (3, .slice o_g8b k_g8b c_g8b)]
  rw [eW]; clear eW d0 d1 d2 d3 f0 f1 f2 f3 x_b4
  have x_b4 := x_b4'; clear x_b4'
  replace ha1 := ha1.fr hnd ho; replace ha2 := ha2.fr hnd ho; replace hq1 := hq1.fr hnd ho; replace hq2 := hq2.fr hnd ho; replace x_b1 := x_b1.frame ho ne_b1_b4; replace x_b2 := x_b2.frame ho ne_b2_b4; replace x_b3 := x_b3.frame ho ne_b3_b4; replace g3 := g3.fr hnd ho; replace g5 := g5.fr hnd ho; replace x_b11 := x_b11.frame ho ne_b4_b11.symm; replace g81 := g81.fr hnd ho; replace g82 := g82.fr hnd ho; replace hb := belowOnly hb ho kb_b4
  refine hK _ _ rfl (And.intro ⟨x_b11.cell 0 rfl, x_b11.cell 1 rfl, x_b11.cell 2 rfl, x_b11.cell 3 rfl⟩ (And.intro ⟨x_b1.cell 0 rfl, x_b1.cell 1 rfl, x_b1.cell 2 rfl, x_b1.cell 3 rfl⟩ (And.intro ⟨x_b2.cell 0 rfl, x_b2.cell 1 rfl, x_b2.cell 2 rfl, x_b2.cell 3 rfl⟩ True.intro))) ?_; clear hK K ho hnd
  apply wpTail_end
  refine hK7 _ _ ?_
  refine wp_ret ?_
  try dsimp only [Exit.then, Exit.inBlock]
  obtain ⟨r0_0, r0_1, r0_2, r0_3⟩ := x_b3.f4
  obtain ⟨r4_0, r4_1, r4_2, r4_3⟩ := x_b4.f4
  refine bodyPost_ret (v := (.tuple #[(.agg #[.bool n_g3, .slice o_g3 k_g3 c_g3, .bool n_g5, .slice o_g5 k_g5 c_g5]), (.agg #[.bool n_g8a, .slice o_g8a k_g8a c_g8a, .bool n_g8b, .slice o_g8b k_g8b c_g8b])])) (by simp [results, Tryz.results52, go_sem, r0_0, r0_1, r0_2, r0_3, r4_0, r4_1, r4_2, r4_3]) rfl ?_
  exact ⟨_, _, rfl, .mk' g3 g5, .mk' g81 g82, hb⟩
set_option maxHeartbeats 4000000 in
set_option maxRecDepth 20000 in
theorem rgZero_any (w : World) :
    Calls Tryz.prog 25 #[.agg #[.bool false, .slice none 0 0, .bool false, .slice none 0 0]] w fun e w' => e = .returned (.bool true) ∧ Below w.heap.size w w' := by
  go_enter Tryz.func25, Tryz.ntmps25
  have hb := Below.refl w.heap.size w
  refine wp_seq_k ?_
  intro K1 hK1
  refine wp_region_sq [0, 1] (by kernel_rfl) ?_
  refine wpSq_call rfl (by kernel_rfl) fun K hK => ?_
  go_big_op
  obtain ⟨p_b1, w_1, eP, eW, x_b1, hn, kb_b1⟩ := newBox w #[.bool false, .slice none 0 0, .bool false, .slice none 0 0] 29 hb.size
  rw [eW, eP]
  clear eW eP
  replace hb := hb.trans (hn.mono hb.size)
  refine hK _ _ rfl ?_; clear hK K hn
  refine wpSq_call rfl (by kernel_rfl) fun K hK => ?_
  go_big_move; refine hK _ _ rfl ?_; clear hK K
  apply wpSq_end
  refine hK1 _ _ ?_
  refine wp_seq_k ?_
  intro K2 hK2
  refine wp_region_sq [0, 1, 2, 3, 4, 5, 6, 7, 8] (by kernel_rfl) ?_
  refine wpSq_call rfl (by kernel_rfl) fun K hK => ?_
  go_big_op; refine hK _ _ rfl ?_; clear hK K
  refine wpSq_call rfl (by kernel_rfl) fun K hK => ?_
  obtain ⟨d0, d1, d2, d3⟩ := x_b1.f4
  go_big_op; refine hK _ _ rfl ?_; clear hK K d0 d1 d2 d3
  refine wpSq_call rfl (by kernel_rfl) fun K hK => ?_
  go_big_op
  go_fit (rzero_any _)
  rintro e w_2 ⟨rfl, hb_2⟩
  replace x_b1 := x_b1.bl hb_2; replace hb := hb.trans (hb_2.mono hb.size)
  refine hK _ _ rfl ?_
  clear hK K hb_2
  refine wpSq_call rfl (by kernel_rfl) fun K hK => ?_
  go_big_move; refine hK _ _ rfl ?_; clear hK K
  refine wpSq_call rfl (by kernel_rfl) fun K hK => ?_
  go_big_op; refine hK _ _ rfl ?_; clear hK K
  refine wpSq_call rfl (by kernel_rfl) fun K hK => ?_
  obtain ⟨d0, d1, d2, d3⟩ := x_b1.f4
  go_big_op; refine hK _ _ rfl ?_; clear hK K d0 d1 d2 d3
  refine wpSq_call rfl (by kernel_rfl) fun K hK => ?_
  go_big_op
  go_fit (rzero_any _)
  rintro e w_3 ⟨rfl, hb_3⟩
  clear x_b1
  replace hb := hb.trans (hb_3.mono hb.size)
  refine hK _ _ rfl ?_
  clear hK K hb_3
  refine wpSq_call rfl (by kernel_rfl) fun K hK => ?_
  go_big_op; refine hK _ _ rfl ?_; clear hK K
  refine wpSq_call rfl (by kernel_rfl) fun K hK => ?_
  go_big_move; refine hK _ _ rfl ?_; clear hK K
  apply wpSq_end
  refine hK2 _ _ ?_
  refine wp_ret ?_
  try dsimp only [Exit.then, Exit.inBlock]
  refine bodyPost_ret (v := (.bool true)) (by simp [results, Tryz.results25, go_sem]) rfl ?_
  exact ⟨rfl, hb⟩
end
theorem sq_le {a n : Int} (h1 : -n ≤ a) (h2 : a ≤ n) : a * a ≤ n * n := by
  have h := Int.mul_nonneg (show 0 ≤ n - a by omega) (show 0 ≤ n + a by omega)
  have e : (n - a) * (n + a) = n * n - a * a := by grind
  omega
/-- What is left of the quotient, times conj(b). -/
theorem gR_conj (x y u v : Int) : gR1 x y u v * u - gR2 x y u v * -v = gT1 x y u v - gQ1 x y u v * gN u v ∧ gR1 x y u v * -v + gR2 x y u v * u = gT2 x y u v - gQ2 x y u v * gN u v := by
  unfold gR1 gR2 gT1 gT2 gN
  generalize gQ1 x y u v = a
  generalize gQ2 x y u v = b
  constructor <;> grind
theorem gR_back (x y u v : Int) : gQ1 x y u v * u - gQ2 x y u v * v + gR1 x y u v = x ∧ gQ1 x y u v * v + gQ2 x y u v * u + gR2 x y u v = y := by
  unfold gR1 gR2; omega
theorem gN_mul (a b c d : Int) : gN (a * c - b * d) (a * d + b * c) = gN a b * gN c d := by unfold gN; grind
theorem gN_conj (a b : Int) : gN a (-b) = gN a b := by unfold gN; grind
theorem gN_pos {u v : Int} (h : gN u v ≠ 0) : 0 < gN u v := by have := gN_nonneg u v; omega
/-- Twice the rest's norm is at most the divisor's. -/
theorem gR_half {x y u v : Int} (h0 : gN u v ≠ 0) : gN (gR1 x y u v) (gR2 x y u v) + gN (gR1 x y u v) (gR2 x y u v) ≤ gN u v := by
  have hp := gN_pos h0
  have b1 := (rnd_bd (x := gT1 x y u v) h0).1 hp
  have b2 := (rnd_bd (x := gT2 x y u v) h0).1 hp
  obtain ⟨e1, e2⟩ := gR_conj x y u v
  have hm := gN_mul (gR1 x y u v) (gR2 x y u v) u (-v)
  rw [gN_conj] at hm
  rw [show gR1 x y u v * u - gR2 x y u v * -v = gT1 x y u v - rnd (gT1 x y u v) (gN u v) * gN u v from e1, show gR1 x y u v * -v + gR2 x y u v * u = gT2 x y u v - rnd (gT2 x y u v) (gN u v) * gN u v from e2] at hm
  generalize gT1 x y u v - rnd (gT1 x y u v) (gN u v) * gN u v = a at *
  generalize gT2 x y u v - rnd (gT2 x y u v) (gN u v) * gN u v = b at *
  generalize gN (gR1 x y u v) (gR2 x y u v) = r at *
  generalize gN u v = n at *
  have s1 := sq_le (a := 2 * a) (n := n) (by omega) (by omega)
  have s2 := sq_le (a := 2 * b) (n := n) (by omega) (by omega)
  have hab : gN a b = a * a + b * b := rfl
  rw [hab] at hm
  have f1 : 2 * a * (2 * a) = 4 * (a * a) := by grind
  have f2 : 2 * b * (2 * b) = 4 * (b * b) := by grind
  have h3 : (r + r) * n ≤ n * n := by
    have : (r + r) * n = 2 * (r * n) := by grind
    omega
  exact Int.le_of_mul_le_mul_right h3 hp
/-- The rest is 0 just where both parts divide. -/
theorem gR_zero {x y u v : Int} (h0 : gN u v ≠ 0) : (gR1 x y u v = 0 ∧ gR2 x y u v = 0) ↔ ((gT1 x y u v).fmod (gN u v) = 0 ∧ (gT2 x y u v).fmod (gN u v) = 0) := by
  obtain ⟨e1, e2⟩ := gR_conj x y u v
  have key : ∀ t : Int, (t - rnd t (gN u v) * gN u v = 0 ↔ t.fmod (gN u v) = 0) := by
    intro t
    by_cases hh : (gN u v).natAbs ≤ (t.fmod (gN u v)).natAbs + (t.fmod (gN u v)).natAbs
    · have h1 := (rnd_up (x := t) h0 hh).2
      have h2 := fmod_lt (x := t) h0
      have h3 := gN_pos h0
      have h4 := (fmod_bd (x := t) h0).1 h3
      rw [h1]; omega
    · have h1 := (rnd_down (x := t) h0 (by omega)).2
      rw [h1]
  constructor
  · rintro ⟨h1, h2⟩
    rw [h1, h2] at e1 e2
    exact ⟨(key _).1 (by unfold gQ1 at e1; omega), (key _).1 (by unfold gQ2 at e2; omega)⟩
  · rintro ⟨h1, h2⟩
    have k1 := (key _).2 h1
    have k2 := (key _).2 h2
    have f1 : gR1 x y u v * u - gR2 x y u v * -v = 0 := by rw [e1]; exact k1
    have f2 : gR1 x y u v * -v + gR2 x y u v * u = 0 := by rw [e2]; exact k2
    have hm := gN_mul (gR1 x y u v) (gR2 x y u v) u (-v)
    rw [f1, f2, gN_conj] at hm
    have h3 : gN (gR1 x y u v) (gR2 x y u v) * gN u v = 0 := by rw [← hm]; rfl
    exact gN_zero.1 ((Int.mul_eq_zero.1 h3).resolve_right h0)
/-- Where both parts divide, the nearest is the quotient. -/
theorem gQ_exact {x y u v : Int} (h0 : gN u v ≠ 0) (h1 : (gT1 x y u v).fmod (gN u v) = 0) (h2 : (gT2 x y u v).fmod (gN u v) = 0) : (gT1 x y u v).fdiv (gN u v) = gQ1 x y u v ∧ (gT2 x y u v).fdiv (gN u v) = gQ2 x y u v := by
  have hp := gN_pos h0
  unfold gQ1 gQ2
  refine ⟨((rnd_down h0 ?_).1).symm, ((rnd_down h0 ?_).1).symm⟩
  · rw [h1]; show 0 + 0 < _; omega
  · rw [h2]; show 0 + 0 < _; omega
end Go.Proofs.YtgjainmfilkjmaaGreatDoor

/- A quotient guessed from the tops of two numbers. -/
namespace Go.Proofs.YtgjainmfilkjmaaGreatDoor
open Go Go.RowKit Dig
set_option linter.unusedVariables false

/-- The nearest is known by what is left. -/
theorem rnd_of {t n q : Int} (hn : 0 < n) (h1 : -n ≤ 2 * (t - q * n)) (h2 : 2 * (t - q * n) < n) : rnd t n = q := by
  unfold rnd
  rw [Int.fdiv_eq_ediv_of_nonneg _ (by omega)]
  have e : 2 * t + n = (2 * (t - q * n) + n) + q * (2 * n) := by grind
  rw [e, Int.add_mul_ediv_right _ _ (by omega), Int.ediv_eq_zero_of_lt (by omega) (by omega)]
  omega
theorem abs_mul_le {a b A B : Int} (ha : -A ≤ a ∧ a ≤ A) (hb : -B ≤ b ∧ b ≤ B) : -(A * B) ≤ a * b ∧ a * b ≤ A * B := by
  have hA : 0 ≤ A := by omega
  have hB : 0 ≤ B := by omega
  have h1 := Int.mul_nonneg (show 0 ≤ A - a by omega) (show 0 ≤ B + b by omega)
  have h2 := Int.mul_nonneg (show 0 ≤ A + a by omega) (show 0 ≤ B - b by omega)
  have h3 := Int.mul_nonneg (show 0 ≤ A - a by omega) (show 0 ≤ B - b by omega)
  have h4 := Int.mul_nonneg (show 0 ≤ A + a by omega) (show 0 ≤ B + b by omega)
  have e1 : (A - a) * (B + b) = A * B + A * b - a * B - a * b := by grind
  have e2 : (A + a) * (B - b) = A * B - A * b + a * B - a * b := by grind
  have e3 : (A - a) * (B - b) = A * B - A * b - a * B + a * b := by grind
  have e4 : (A + a) * (B + b) = A * B + A * b + a * B + a * b := by grind
  constructor <;> omega
/-- From a square's bound to the number's. -/
theorem sq_lt {a A : Int} (hA : 0 ≤ A) (h : a * a ≤ A * A) : -A ≤ a ∧ a ≤ A := by
  have key : ∀ c : Int, 0 ≤ c → c * c ≤ A * A → c ≤ A := by
    intro c hc hcc
    rcases Int.lt_or_le A c with h1 | h1
    · have := Int.mul_self_lt_mul_self hA h1; omega
    · exact h1
  rcases Int.le_total 0 a with h0 | h0
  · have := key a h0 h; omega
  · have := key (-a) (by omega) (by rw [Int.neg_mul_neg]; exact h); omega
theorem msq (x : Int) : 0 ≤ x * x := by
  rcases Int.le_total 0 x with h | h
  · exact Int.mul_nonneg h h
  · exact Int.mul_nonneg_of_nonpos_of_nonpos h h
/-- What two parts are at most, their sum of squares being at most a square. -/
theorem norm_le {a b A : Int} (hA : 0 ≤ A) (h : gN a b ≤ A * A) : (-A ≤ a ∧ a ≤ A) ∧ (-A ≤ b ∧ b ≤ A) := by
  unfold gN at h
  have h1 := msq a
  have h2 := msq b
  exact ⟨sq_lt hA (by omega), sq_lt hA (by omega)⟩
theorem norm_ge {a b A : Int} (ha : -A ≤ a ∧ a ≤ A) (hb : -A ≤ b ∧ b ≤ A) : gN a b ≤ 2 * (A * A) := by
  have h1 := (abs_mul_le ha ha).2
  have h2 := (abs_mul_le hb hb).2
  unfold gN; omega
/-- A quotient of the tops is the quotient, where it lies far inside. -/
theorem guess {B a1 a2 b1 b2 c1 c2 d1 d2 m : Int} (hB : 0 < B) (hc1 : -B ≤ c1 ∧ c1 ≤ B) (hc2 : -B ≤ c2 ∧ c2 ≤ B) (hd1 : -B ≤ d1 ∧ d1 ≤ B) (hd2 : -B ≤ d2 ∧ d2 ≤ B) (hs1 : 0 ≤ b1 * d1) (hs2 : 0 ≤ b2 * d2)
    (hm : 340282366920938463463374607431768211456 ≤ m) (hb1 : -m ≤ b1 ∧ b1 ≤ m) (hb2 : -m ≤ b2 ∧ b2 ≤ m) (hmm : m * m ≤ gN b1 b2) (ha1 : -(18446744073709551616 * m) ≤ a1 ∧ a1 ≤ 18446744073709551616 * m) (ha2 : -(18446744073709551616 * m) ≤ a2 ∧ a2 ≤ 18446744073709551616 * m)
    {q1 q2 r1 r2 : Int} (hr1 : a1 = q1 * b1 - q2 * b2 + r1) (hr2 : a2 = q1 * b2 + q2 * b1 + r2) (hrr : gN r1 r2 + gN r1 r2 ≤ gN b1 b2)
    (hp1 : 2 * (r1 * b1 + r2 * b2) < gN b1 b2 - gN b1 b2 / 4294967296 ∧ -(gN b1 b2 - gN b1 b2 / 4294967296) < 2 * (r1 * b1 + r2 * b2))
    (hp2 : 2 * (r2 * b1 - r1 * b2) < gN b1 b2 - gN b1 b2 / 4294967296 ∧ -(gN b1 b2 - gN b1 b2 / 4294967296) < 2 * (r2 * b1 - r1 * b2)) :
    gQ1 (a1 * B + c1) (a2 * B + c2) (b1 * B + d1) (b2 * B + d2) = q1 ∧ gQ2 (a1 * B + c1) (a2 * B + c2) (b1 * B + d1) (b2 * B + d2) = q2 := by
  have hm0 : 0 ≤ m := by omega
  have hN2 : gN b1 b2 ≤ 2 * (m * m) := norm_ge hb1 hb2
  obtain ⟨R1, R2⟩ := norm_le (a := r1) (b := r2) hm0 (by omega)
  -- the quotient's parts
  have hq : gN q1 q2 ≤ 5444517870735015415413993718908291383296 := by
    have e1 : q1 * b1 - q2 * b2 = a1 - r1 := by omega
    have e2 : q1 * b2 + q2 * b1 = a2 - r2 := by omega
    have h1 := gN_mul q1 q2 b1 b2
    rw [e1, e2] at h1
    have h2 : gN (a1 - r1) (a2 - r2) ≤ 2 * ((36893488147419103232 * m) * (36893488147419103232 * m)) := norm_ge (by omega) (by omega)
    have h3 : (36893488147419103232 * m) * (36893488147419103232 * m) = 1361129467683753853853498429727072845824 * (m * m) := by grind
    rw [h3] at h2
    have h4 : 0 ≤ gN q1 q2 := by unfold gN; have := msq q1; have := msq q2; omega
    have h5 : gN q1 q2 * (m * m) ≤ gN q1 q2 * gN b1 b2 := Int.mul_le_mul_of_nonneg_left hmm h4
    have h6 : 0 < m * m := Int.mul_pos (by omega) (by omega)
    have h7 : gN q1 q2 * (m * m) ≤ 2722258935367507707706996859454145691648 * (m * m) := by omega
    have := Int.le_of_mul_le_mul_right h7 h6
    omega
  obtain ⟨Q1, Q2⟩ := norm_le (a := q1) (b := q2) (A := 73786976294838206464) (by decide) (by omega)
  -- what is left
  obtain ⟨e1, he1⟩ : ∃ e, e = c1 - (q1 * d1 - q2 * d2) := ⟨_, rfl⟩
  obtain ⟨e2, he2⟩ : ∃ e, e = c2 - (q1 * d2 + q2 * d1) := ⟨_, rfl⟩
  have k1 := abs_mul_le Q1 hd1
  have k2 := abs_mul_le Q2 hd2
  have k3 := abs_mul_le Q1 hd2
  have k4 := abs_mul_le Q2 hd1
  have E1 : -(295147905179352825856 * B) ≤ e1 ∧ e1 ≤ 295147905179352825856 * B := by omega
  have E2 : -(295147905179352825856 * B) ≤ e2 ∧ e2 ≤ 295147905179352825856 * B := by omega
  have hmB : B ≤ m * B := by
    have := Int.mul_le_mul_of_nonneg_right (show (1 : Int) ≤ m by omega) (Int.le_of_lt hB); omega
  have j1 := abs_mul_le hb1 (show -B ≤ B ∧ B ≤ B by omega)
  have j2 := abs_mul_le hb2 (show -B ≤ B ∧ B ≤ B by omega)
  have U : -(2 * (m * B)) ≤ b1 * B + d1 ∧ b1 * B + d1 ≤ 2 * (m * B) := by omega
  have V : -(2 * (m * B)) ≤ b2 * B + d2 ∧ b2 * B + d2 ≤ 2 * (m * B) := by omega
  have w1 := abs_mul_le E1 U
  have w2 := abs_mul_le E2 V
  have w3 := abs_mul_le E2 U
  have w4 := abs_mul_le E1 V
  have z1 := abs_mul_le R1 hd1
  have z2 := abs_mul_le R2 hd2
  have z3 := abs_mul_le R2 hd1
  have z4 := abs_mul_le R1 hd2
  have g0 : (295147905179352825856 * B) * (2 * (m * B)) = 590295810358705651712 * (m * (B * B)) := by grind
  rw [g0] at w1 w2 w3 w4
  -- r d, times B
  have y1 := abs_mul_le (a := r1 * d1 + r2 * d2) (b := B) (A := 2 * (m * B)) (B := B) (by omega) (by omega)
  have y2 := abs_mul_le (a := r2 * d1 - r1 * d2) (b := B) (A := 2 * (m * B)) (B := B) (by omega) (by omega)
  have g1 : 2 * (m * B) * B = 2 * (m * (B * B)) := by grind
  rw [g1] at y1 y2
  obtain ⟨S, hS⟩ : ∃ S, S = B * B := ⟨_, rfl⟩
  have hS0 : 0 < S := by rw [hS]; exact Int.mul_pos hB hB
  -- the norm below
  have hn : gN (b1 * B + d1) (b2 * B + d2) = gN b1 b2 * S + 2 * ((b1 * d1) * B) + 2 * ((b2 * d2) * B) + (d1 * d1 + d2 * d2) := by rw [hS]; unfold gN; grind
  have n1 := Int.mul_nonneg hs1 (Int.le_of_lt hB)
  have n2 := Int.mul_nonneg hs2 (Int.le_of_lt hB)
  have n3 := msq d1
  have n4 := msq d2
  have D1 : gT1 (a1 * B + c1) (a2 * B + c2) (b1 * B + d1) (b2 * B + d2) - q1 * gN (b1 * B + d1) (b2 * B + d2) = (r1 * b1 + r2 * b2) * S + (r1 * d1 + r2 * d2) * B + e1 * (b1 * B + d1) + e2 * (b2 * B + d2) := by
    rw [he1, he2, hS, hr1, hr2]; unfold gT1 gN; grind
  have D2 : gT2 (a1 * B + c1) (a2 * B + c2) (b1 * B + d1) (b2 * B + d2) - q2 * gN (b1 * B + d1) (b2 * B + d2) = (r2 * b1 - r1 * b2) * S + (r2 * d1 - r1 * d2) * B + e2 * (b1 * B + d1) - e1 * (b2 * B + d2) := by
    rw [he1, he2, hS, hr1, hr2]; unfold gT2 gN; grind
  rw [← hS] at w1 w2 w3 w4 y1 y2
  -- the far inside
  have hmS : 340282366920938463463374607431768211456 * (m * S) ≤ gN b1 b2 * S := by
    have h1 : 340282366920938463463374607431768211456 * m ≤ m * m := Int.mul_le_mul_of_nonneg_right hm hm0
    have h2 := Int.mul_le_mul_of_nonneg_right (Int.le_trans h1 hmm) (Int.le_of_lt hS0)
    have h3 : 340282366920938463463374607431768211456 * m * S = 340282366920938463463374607431768211456 * (m * S) := by grind
    omega
  have hmS0 : 0 < m * S := Int.mul_pos (by omega) hS0
  have far : ∀ p : Int, 2 * p < gN b1 b2 - gN b1 b2 / 4294967296 → -(gN b1 b2 - gN b1 b2 / 4294967296) < 2 * p → 4294967296 * (2 * (p * S)) ≤ 4294967295 * (gN b1 b2 * S) ∧ -(4294967295 * (gN b1 b2 * S)) ≤ 4294967296 * (2 * (p * S)) := by
    intro p h1 h2
    have h3 : 4294967296 * (2 * p) ≤ 4294967295 * gN b1 b2 := by omega
    have h4 : -(4294967295 * gN b1 b2) ≤ 4294967296 * (2 * p) := by omega
    have h5 := Int.mul_le_mul_of_nonneg_right h3 (Int.le_of_lt hS0)
    have h6 := Int.mul_le_mul_of_nonneg_right h4 (Int.le_of_lt hS0)
    have f1 : 4294967296 * (2 * p) * S = 4294967296 * (2 * (p * S)) := by grind
    have f2 : 4294967295 * gN b1 b2 * S = 4294967295 * (gN b1 b2 * S) := by grind
    have f3 : -(4294967295 * gN b1 b2) * S = -(4294967295 * (gN b1 b2 * S)) := by grind
    omega
  have F1 := far _ hp1.1 hp1.2
  have F2 := far _ hp2.1 hp2.2
  clear hp1 hp2 far
  generalize (r1 * b1 + r2 * b2) * S = p1 at *
  generalize (r2 * b1 - r1 * b2) * S = p2 at *
  generalize gN b1 b2 * S = NS at *
  generalize m * S = mS at *
  generalize (r1 * d1 + r2 * d2) * B = t1 at *
  generalize (r2 * d1 - r1 * d2) * B = t2 at *
  generalize e1 * (b1 * B + d1) = o1 at *
  generalize e2 * (b2 * B + d2) = o2 at *
  generalize e2 * (b1 * B + d1) = o3 at *
  generalize e1 * (b2 * B + d2) = o4 at *
  have hpos : 0 < gN (b1 * B + d1) (b2 * B + d2) := by omega
  refine ⟨rnd_of hpos ?_ ?_, rnd_of hpos ?_ ?_⟩
  · rw [D1]; omega
  · rw [D1]; omega
  · rw [D2]; omega
  · rw [D2]; omega
end Go.Proofs.YtgjainmfilkjmaaGreatDoor
