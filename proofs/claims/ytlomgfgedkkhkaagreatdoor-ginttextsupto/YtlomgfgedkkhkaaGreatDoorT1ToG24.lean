/- Texts with a sign: CutPrefix, the references Is and Parse. -/
import Derived.Test.YtlomgfgedkkhkaaGreatDoorR11
import Derived.Test.YtlomgfgedkkhkaaGreatDoorR12
import Derived.Shelf.Strings.SlTrimAscii
import Derived.Scope
namespace Go.Proofs.YtlomgfgedkkhkaaGreatDoor
open Go.RowKit Dig
/-- Does a text begin with a -? -/
def minusB (s : ByteArray) : Bool := decide (1 ≤ s.size) && ((s.extract 0 1).toList == [45])
set_option maxHeartbeats 1000000 in
set_option maxRecDepth 20000 in
theorem hasPrefix_any (s : ByteArray) (w : World) :
    Calls Tryz.prog 101 #[.string s, .string ⟨#[45]⟩] w fun e w' => e = .returned (.bool (minusB s)) ∧ w' = w := by
  by_cases h : 1 ≤ s.size
  · have hm : minusB s = ((s.extract 0 1).toList == [45]) := by unfold minusB; rw [decide_eq_true h, Bool.true_and]
    rw [hm]
    clear hm
    go_enter Tryz.func101, Tryz.ntmps101
    go_wp2
    go_ret
    exact ⟨rfl, rfl⟩
  · have hm : minusB s = false := by unfold minusB; rw [decide_eq_false h, Bool.false_and]
    rw [hm]
    clear hm
    go_enter Tryz.func101, Tryz.ntmps101
    go_wp2
    go_ret
    exact ⟨rfl, rfl⟩
set_option maxHeartbeats 1000000 in
set_option maxRecDepth 20000 in
theorem cutPrefix0 (s : ByteArray) (w : World) (hm : minusB s = false) :
    Calls Tryz.prog 106 #[.string s, .string ⟨#[45]⟩] w fun e w' => e = .returned (.tuple #[.string s, .bool false]) ∧ w' = w := by
  go_enter Tryz.func106, Tryz.ntmps106
  go_wp2_with fail
  refine (hasPrefix_any s w).mono ?_
  rintro e w' ⟨rfl, rfl⟩
  rw [hm]
  go_wp2
  go_ret2
  exact ⟨rfl, rfl⟩
set_option maxHeartbeats 1000000 in
set_option maxRecDepth 20000 in
theorem cutPrefix1 (s : ByteArray) (w : World) (hs : s.size ≤ 1048576) (hm : minusB s = true) :
    Calls Tryz.prog 106 #[.string s, .string ⟨#[45]⟩] w fun e w' => e = .returned (.tuple #[.string (s.extract 1 s.size), .bool true]) ∧ w' = w := by
  have h1 : 1 ≤ s.size := by unfold minusB at hm; rw [Bool.and_eq_true] at hm; exact of_decide_eq_true hm.1
  go_enter Tryz.func106, Tryz.ntmps106
  go_wp2_with fail
  refine (hasPrefix_any s w).mono ?_
  rintro e w' ⟨rfl, rfl⟩
  rw [hm]
  clear hm
  go_wp2
  go_ret2
  exact ⟨rfl, rfl⟩
set_option maxHeartbeats 1000000 in
set_option maxRecDepth 20000 in
theorem scut0 (s : ByteArray) (w : World) (hm : minusB s = false) :
    Calls Tryz.prog 81 #[.string s, .string ⟨#[45]⟩] w fun e w' => e = .returned (.tuple #[.string s, .bool false]) ∧ w' = w := by
  go_enter Tryz.func81, Tryz.ntmps81
  go_wp2_with fail
  refine (cutPrefix0 s w hm).mono ?_
  rintro e w' ⟨rfl, rfl⟩
  go_wp2
  go_ret2
  exact ⟨rfl, rfl⟩
set_option maxHeartbeats 1000000 in
set_option maxRecDepth 20000 in
theorem scut1 (s : ByteArray) (w : World) (hs : s.size ≤ 1048576) (hm : minusB s = true) :
    Calls Tryz.prog 81 #[.string s, .string ⟨#[45]⟩] w fun e w' => e = .returned (.tuple #[.string (s.extract 1 s.size), .bool true]) ∧ w' = w := by
  go_enter Tryz.func81, Tryz.ntmps81
  go_wp2_with fail
  refine (cutPrefix1 s w hs hm).mono ?_
  rintro e w' ⟨rfl, rfl⟩
  go_wp2
  go_ret2
  exact ⟨rfl, rfl⟩
theorem minus_at (s : ByteArray) (h : 0 < s.size) : minusB s = (((s[0]'h).toNat : Int) == 45) := by
  unfold minusB
  rw [decide_eq_true (show 1 ≤ s.size from h), Bool.true_and, Lib.extract_toList]
  obtain ⟨⟨l⟩⟩ := s
  cases l with
  | nil => exact absurd h (Nat.lt_irrefl 0)
  | cons c l =>
    show ([c] == [45]) = ((c.toNat : Int) == 45)
    rw [Bool.eq_iff_iff]
    simp only [beq_iff_eq, List.cons.injEq, and_true]
    constructor
    · rintro rfl; rfl
    · intro h2
      have h3 : c.toNat = (45 : UInt8).toNat := by have : (45 : UInt8).toNat = 45 := rfl; omega
      exact UInt8.toNat_inj.1 h3
theorem minus_size {s : ByteArray} (h : minusB s = true) : 0 < s.size := by
  unfold minusB at h; rw [Bool.and_eq_true] at h; exact of_decide_eq_true h.1
theorem rest_size {s : ByteArray} : (s.extract 1 s.size).size = s.size - 1 := by
  rw [Lib.size_eq, Lib.extract_data, List.length_take, List.length_drop, ← Lib.size_eq]; omega
set_option maxHeartbeats 1000000 in
set_option maxRecDepth 20000 in
/-- tesselref2.Is, with a -. -/
theorem ris_minus (s : ByteArray) (w : World) (hs : s.size ≤ 65536) (hm : minusB s = true) :
    Calls Tryz.prog 51 #[.string s] w fun e w' => e = .returned (.bool (digitsB (s.extract 1 s.size).data.toList)) ∧ w' = w := by
  have h := minus_size hm
  have hr := rest_size (s := s)
  have hd := rDigits_any (s.extract 1 s.size) w (by omega)
  have hm2 := minus_at s h
  rw [hm] at hm2
  obtain ⟨c, hc⟩ : ∃ c, s[0]'h = c := ⟨_, rfl⟩
  rw [hc] at hm2
  have hc2 := hm2.symm
  clear hm hm2 hr
  obtain ⟨D, hD⟩ : ∃ D, digitsB (s.extract 1 s.size).data.toList = D := ⟨_, rfl⟩
  rw [hD] at hd ⊢
  clear hD
  have HD := hide hd
  clear hd
  go_enter Tryz.func51, Tryz.ntmps51
  go_wp2_with fail
  refine HD.out.mono ?_
  rintro e w' ⟨rfl, rfl⟩
  go_wp2
  go_ret
  exact ⟨rfl, rfl⟩
set_option maxHeartbeats 1000000 in
set_option maxRecDepth 20000 in
/-- tesselref2.Is, without. -/
theorem ris_plain (s : ByteArray) (w : World) (hs : s.size ≤ 65536) (hm : minusB s = false) :
    Calls Tryz.prog 51 #[.string s] w fun e w' => e = .returned (.bool (digitsB s.data.toList)) ∧ w' = w := by
  have HD := hide (rDigits_any s w (by omega))
  obtain ⟨D, hD⟩ : ∃ D, digitsB s.data.toList = D := ⟨_, rfl⟩
  rw [hD] at HD ⊢
  clear hD
  by_cases h : 0 < s.size
  · have hm2 := minus_at s h
    rw [hm] at hm2
    obtain ⟨c, hc⟩ : ∃ c, s[0]'h = c := ⟨_, rfl⟩
    rw [hc] at hm2
    have hc2 := hm2.symm
    clear hm hm2
    go_enter Tryz.func51, Tryz.ntmps51
    go_wp2_with fail
    refine HD.out.mono ?_
    rintro e w' ⟨rfl, rfl⟩
    go_wp2
    go_ret
    exact ⟨rfl, rfl⟩
  · have h0 : s.size = 0 := by omega
    clear hm h
    go_enter Tryz.func51, Tryz.ntmps51
    go_wp2_with fail
    refine HD.out.mono ?_
    rintro e w' ⟨rfl, rfl⟩
    go_wp2
    go_ret
    exact ⟨rfl, rfl⟩
set_option maxHeartbeats 1000000 in
set_option maxRecDepth 20000 in
/-- tesselref2.Parse, with a -. -/
theorem rzparse_minus (s : ByteArray) (w : World) (hs : s.size ≤ 65536) (hm : minusB s = true) (hd : (s.extract 1 s.size).data.toList.all isD = true) :
    Calls Tryz.prog 52 #[.string s] w fun e w' => ∃ v, e = .returned v ∧ ZC w' v (-((pval (s.extract 1 s.size).data.toList : Nat) : Int)) ∧ Below w.heap.size w w' := by
  have h := minus_size hm
  have hr := rest_size (s := s)
  have LD := hide (pval_dig_length hd (by rw [← Lib.size_eq]; omega))
  have HP := hide (fun w => rparse_any (s.extract 1 s.size) w (by omega) hd)
  have hm2 := minus_at s h
  rw [hm] at hm2
  obtain ⟨c, hc⟩ : ∃ c, s[0]'h = c := ⟨_, rfl⟩
  rw [hc] at hm2
  have hc2 := hm2.symm
  clear hm hm2 hr hd
  obtain ⟨V, hV⟩ : ∃ V, pval (s.extract 1 s.size).data.toList = V := ⟨_, rfl⟩
  rw [hV] at HP LD ⊢
  clear hV
  have E1 := hide (show (if true = true then -((val (dig V) : Nat) : Int) else ((val (dig V) : Nat) : Int)) = -((V : Nat) : Int) by rw [val_dig]; rfl)
  go_enter Tryz.func52, Tryz.ntmps52
  have hb := Below.refl w.heap.size w
  have hz := Bk.new w false (.slice none 0 0)
  replace hb := hb.alloc hb.size (.cells #[.bool false, (.slice none 0 0)] 26)
  go_wp2_with fail
  refine (HP.out _).mono ?_
  rintro e w_1 ⟨v1, rfl, g1, hb_1⟩
  replace hz := hz.below hb_1 (Nat.le_refl _)
  replace hb := hb.trans (hb_1.mono hb.size)
  clear hb_1
  go_wp2_with fail
  refine (make_any true _ g1 (by have := LD.out; omega) E1.out).mono ?_
  rintro e w_2 ⟨v2, rfl, g2, hb_2⟩
  replace hz := hz.below hb_2 (Nat.le_refl _)
  replace g1 := g1.below hb_2 (Nat.le_refl _)
  replace hb := hb.trans (hb_2.mono hb.size)
  clear hb_2
  replace g2 := g2.rd
  clear g1
  obtain ⟨sb_hz, o_hz, n_hz, c_hz, rfl⟩ := g2.open2
  have f_hz := hz.facts
  have ho := Bk.only w_2 (w.heap.size) sb_hz (.slice o_hz n_hz c_hz)
  have hbx_ := hz.bx
  replace g2 := g2.frame hbx_ ho
  replace hz := hz.store sb_hz (.slice o_hz n_hz c_hz)
  replace hb := (hb.setCell (p := ⟨w.heap.size, 0, none⟩) (show w.heap.size ≤ w.heap.size by first | assumption | (simp; done) | omega) (.bool sb_hz)).setCell (p := ⟨w.heap.size, 1, none⟩) (show w.heap.size ≤ w.heap.size by first | assumption | (simp; done) | omega) (.slice o_hz n_hz c_hz)
  clear ho hbx_
  obtain ⟨w_3, hw_3⟩ : ∃ v, ((w_2.setCell ⟨w.heap.size, 0, none⟩ (.bool sb_hz)).setCell ⟨w.heap.size, 1, none⟩ (.slice o_hz n_hz c_hz)) = v := ⟨_, rfl⟩
  rw [hw_3] at hz g2 hb
  have f1 := hz.facts
  go_wp2
  refine bodyPost_ret (v := .agg #[.bool sb_hz, .slice o_hz n_hz c_hz]) (by simp [results, Tryz.results52, go_sem, f1.1, f1.2.1]) rfl ?_
  exact ⟨_, rfl, g2, hb⟩
set_option maxHeartbeats 1000000 in
set_option maxRecDepth 20000 in
/-- tesselref2.Parse, without. -/
theorem rzparse_plain (s : ByteArray) (w : World) (hs : s.size ≤ 65536) (hm : minusB s = false) (h : 0 < s.size) (hd : s.data.toList.all isD = true) :
    Calls Tryz.prog 52 #[.string s] w fun e w' => ∃ v, e = .returned v ∧ ZC w' v ((pval s.data.toList : Nat) : Int) ∧ Below w.heap.size w w' := by
  have LD := hide (pval_dig_length hd (by rw [← Lib.size_eq]; omega))
  have HP := hide (fun w => rparse_any s w hs hd)
  have hm2 := minus_at s h
  rw [hm] at hm2
  obtain ⟨c, hc⟩ : ∃ c, s[0]'h = c := ⟨_, rfl⟩
  rw [hc] at hm2
  have hc2 := hm2.symm
  clear hm hm2 hd
  obtain ⟨V, hV⟩ : ∃ V, pval s.data.toList = V := ⟨_, rfl⟩
  rw [hV] at HP LD ⊢
  clear hV
  have E1 := hide (show (if false = true then -((val (dig V) : Nat) : Int) else ((val (dig V) : Nat) : Int)) = ((V : Nat) : Int) by rw [val_dig]; rfl)
  go_enter Tryz.func52, Tryz.ntmps52
  have hb := Below.refl w.heap.size w
  have hz := Bk.new w false (.slice none 0 0)
  replace hb := hb.alloc hb.size (.cells #[.bool false, (.slice none 0 0)] 26)
  go_wp2_with fail
  refine (HP.out _).mono ?_
  rintro e w_1 ⟨v1, rfl, g1, hb_1⟩
  replace hz := hz.below hb_1 (Nat.le_refl _)
  replace hb := hb.trans (hb_1.mono hb.size)
  clear hb_1
  go_wp2_with fail
  refine (make_any false _ g1 (by have := LD.out; omega) E1.out).mono ?_
  rintro e w_2 ⟨v2, rfl, g2, hb_2⟩
  replace hz := hz.below hb_2 (Nat.le_refl _)
  replace g1 := g1.below hb_2 (Nat.le_refl _)
  replace hb := hb.trans (hb_2.mono hb.size)
  clear hb_2
  replace g2 := g2.rd
  clear g1
  obtain ⟨sb_hz, o_hz, n_hz, c_hz, rfl⟩ := g2.open2
  have f_hz := hz.facts
  have ho := Bk.only w_2 (w.heap.size) sb_hz (.slice o_hz n_hz c_hz)
  have hbx_ := hz.bx
  replace g2 := g2.frame hbx_ ho
  replace hz := hz.store sb_hz (.slice o_hz n_hz c_hz)
  replace hb := (hb.setCell (p := ⟨w.heap.size, 0, none⟩) (show w.heap.size ≤ w.heap.size by first | assumption | (simp; done) | omega) (.bool sb_hz)).setCell (p := ⟨w.heap.size, 1, none⟩) (show w.heap.size ≤ w.heap.size by first | assumption | (simp; done) | omega) (.slice o_hz n_hz c_hz)
  clear ho hbx_
  obtain ⟨w_3, hw_3⟩ : ∃ v, ((w_2.setCell ⟨w.heap.size, 0, none⟩ (.bool sb_hz)).setCell ⟨w.heap.size, 1, none⟩ (.slice o_hz n_hz c_hz)) = v := ⟨_, rfl⟩
  rw [hw_3] at hz g2 hb
  have f1 := hz.facts
  go_wp2
  refine bodyPost_ret (v := .agg #[.bool sb_hz, .slice o_hz n_hz c_hz]) (by simp [results, Tryz.results52, go_sem, f1.1, f1.2.1]) rfl ?_
  exact ⟨_, rfl, g2, hb⟩
set_option maxHeartbeats 400000 in
set_option maxRecDepth 20000 in
/-- signed, of digits that are read. -/
theorem signed_rd {w : World} {s : Value} (neg : Bool) (n : Nat) (z : Int) (h : Rd w s (dig n)) (hz : (if neg then -(n : Int) else (n : Int)) = z) :
    Calls Tryz.prog 63 #[.bool neg, s] w fun e w' => ∃ v, e = .returned v ∧ ZC w' v z ∧ Below w.heap.size w w' := by
  subst hz
  have HSG := hide (sign_of neg n)
  have h' := h
  obtain ⟨oa, cap, rfl, hcap, _⟩ := h
  have H' := hide h'
  clear h'
  have hbl : ∀ o, Below w.heap.size w (w.alloc o) := fun o => (Below.refl _ _).alloc (Nat.le_refl _) o
  have e1 : ((n : Int)).natAbs = n := by simp
  have e2 : (-(n : Int)).natAbs = n := by simp
  have E := hide (And.intro e1 e2)
  clear e1 e2
  cases neg
  · go_enter Tryz.func63, Tryz.ntmps63
    go_wp2
    go_returns
    refine ⟨_, rfl, ⟨_, ?_, by rw [E.out.1]; exact H'.out.below (hbl _) (Nat.le_refl _)⟩, hbl _⟩
    rw [decide_eq_false (by omega : ¬ (n : Int) < 0)]
  · go_enter Tryz.func63, Tryz.ntmps63
    go_wp2
    go_returns
    refine ⟨_, rfl, ⟨_, ?_, by rw [E.out.2]; exact H'.out.below (hbl _) (Nat.le_refl _)⟩, hbl _⟩
    have h3 := HSG.out
    simp only [Bool.true_and, if_true] at h3
    rw [h3]
set_option maxHeartbeats 1000000 in
set_option maxRecDepth 20000 in
/-- zint.Parse of what is no number. -/
theorem zparse_bad (s : ByteArray) (w : World) (hs : s.size ≤ 65536) (d : ByteArray) (m : Bool)
    (hcut : ∀ w, Calls Tryz.prog 81 #[.string s, .string ⟨#[45]⟩] w fun e w' => e = .returned (.tuple #[.string d, .bool m]) ∧ w' = w) (hds : d.size ≤ 65536) (hd : digitsB d.data.toList = false) :
    Calls Tryz.prog 49 #[.string s] w fun e w' => e = .returned (.tuple #[.agg #[.bool false, .slice none 0 0], .int .i64 7]) ∧ Below w.heap.size w w' := by
  have e1 : parseI d = 7 := by unfold parseI; rw [if_neg (by omega), if_neg (by rw [hd]; exact Bool.false_ne_true)]
  have HP := hide (fun w => parse_any d w (by omega))
  rw [e1] at HP
  have HC := hide hcut
  have e7 : ((7 : Int) == 0) = false := rfl
  clear e1 hcut hd
  go_enter Tryz.func49, Tryz.ntmps49
  have hb := Below.refl w.heap.size w
  have hz := Bk.new w false (.slice none 0 0)
  replace hb := hb.alloc hb.size (.cells #[.bool false, (.slice none 0 0)] 26)
  go_wp2_with fail
  refine (HC.out _).mono ?_
  rintro e w' ⟨rfl, rfl⟩
  go_wp2_with fail
  refine (HP.out _).mono ?_
  rintro e w_1 ⟨v1, rfl, -, hb_1⟩
  replace hz := hz.below hb_1 (Nat.le_refl _)
  replace hb := hb.trans (hb_1.mono hb.size)
  clear hb_1
  have f_hz := hz.facts
  have ho := Bk.only w_1 (w.heap.size) false (.slice none 0 0)
  have hbx_ := hz.bx
  replace hz := hz.store false (.slice none 0 0)
  replace hb := (hb.setCell (p := ⟨w.heap.size, 0, none⟩) (show w.heap.size ≤ w.heap.size by first | assumption | (simp; done) | omega) (.bool false)).setCell (p := ⟨w.heap.size, 1, none⟩) (show w.heap.size ≤ w.heap.size by first | assumption | (simp; done) | omega) (.slice none 0 0)
  clear ho hbx_
  obtain ⟨w_2, hw_2⟩ : ∃ v, ((w_1.setCell ⟨w.heap.size, 0, none⟩ (.bool false)).setCell ⟨w.heap.size, 1, none⟩ (.slice none 0 0)) = v := ⟨_, rfl⟩
  rw [hw_2] at hz hb
  have f1 := hz.facts
  go_wp2
  refine bodyPost_ret (v := .tuple #[.agg #[.bool false, .slice none 0 0], .int .i64 7]) (by simp [results, Tryz.results49, go_sem, f1.1, f1.2.1]) rfl ?_
  exact ⟨rfl, hb⟩
set_option maxHeartbeats 1000000 in
set_option maxRecDepth 20000 in
/-- zint.Parse of a number. -/
theorem zparse_good (s : ByteArray) (w : World) (hs : s.size ≤ 65536) (d : ByteArray) (m : Bool) (z : Int)
    (hcut : ∀ w, Calls Tryz.prog 81 #[.string s, .string ⟨#[45]⟩] w fun e w' => e = .returned (.tuple #[.string d, .bool m]) ∧ w' = w) (hds : d.size ≤ 65536) (hd : digitsB d.data.toList = true)
    (hz' : (if m then -((pval d.data.toList : Nat) : Int) else ((pval d.data.toList : Nat) : Int)) = z) :
    Calls Tryz.prog 49 #[.string s] w fun e w' => ∃ v, e = .returned (.tuple #[v, .int .i64 0]) ∧ ZC w' v z ∧ Below w.heap.size w w' := by
  have e1 : parseI d = 0 := by unfold parseI; rw [if_neg (by omega), if_pos hd]
  have e2 : parseD d = dig (pval d.data.toList) := by unfold parseD; rw [if_neg (by omega), if_pos hd]
  have HP := hide (fun w => parse_any d w (by omega))
  rw [e1, e2] at HP
  have HC := hide hcut
  have HZ := hide hz'
  have e0 : ((0 : Int) == 0) = true := rfl
  clear e1 e2 hcut hd hz'
  go_enter Tryz.func49, Tryz.ntmps49
  have hb := Below.refl w.heap.size w
  have hz := Bk.new w false (.slice none 0 0)
  replace hb := hb.alloc hb.size (.cells #[.bool false, (.slice none 0 0)] 26)
  go_wp2_with fail
  refine (HC.out _).mono ?_
  rintro e w' ⟨rfl, rfl⟩
  go_wp2_with fail
  refine (HP.out _).mono ?_
  rintro e w_1 ⟨v1, rfl, g1, hb_1⟩
  replace hz := hz.below hb_1 (Nat.le_refl _)
  replace hb := hb.trans (hb_1.mono hb.size)
  clear hb_1
  go_wp2_with fail
  refine (signed_rd m _ z g1 HZ.out).mono ?_
  rintro e w_2 ⟨v2, rfl, g2, hb_2⟩
  replace hz := hz.below hb_2 (Nat.le_refl _)
  replace g1 := g1.below hb_2 (Nat.le_refl _)
  replace hb := hb.trans (hb_2.mono hb.size)
  clear hb_2
  clear g1
  obtain ⟨sb_hz, o_hz, n_hz, c_hz, rfl⟩ := g2.open2
  have f_hz := hz.facts
  have ho := Bk.only w_2 (w.heap.size) sb_hz (.slice o_hz n_hz c_hz)
  have hbx_ := hz.bx
  replace g2 := g2.frame hbx_ ho
  replace hz := hz.store sb_hz (.slice o_hz n_hz c_hz)
  replace hb := (hb.setCell (p := ⟨w.heap.size, 0, none⟩) (show w.heap.size ≤ w.heap.size by first | assumption | (simp; done) | omega) (.bool sb_hz)).setCell (p := ⟨w.heap.size, 1, none⟩) (show w.heap.size ≤ w.heap.size by first | assumption | (simp; done) | omega) (.slice o_hz n_hz c_hz)
  clear ho hbx_
  obtain ⟨w_3, hw_3⟩ : ∃ v, ((w_2.setCell ⟨w.heap.size, 0, none⟩ (.bool sb_hz)).setCell ⟨w.heap.size, 1, none⟩ (.slice o_hz n_hz c_hz)) = v := ⟨_, rfl⟩
  rw [hw_3] at hz g2 hb
  have f1 := hz.facts
  go_wp2
  refine bodyPost_ret (v := .tuple #[.agg #[.bool sb_hz, .slice o_hz n_hz c_hz], .int .i64 0]) (by simp [results, Tryz.results49, go_sem, f1.1, f1.2.1]) rfl ?_
  exact ⟨_, rfl, g2, hb⟩
set_option maxHeartbeats 1000000 in
set_option maxRecDepth 20000 in
/-- zint.Text of a number not below 0. -/
theorem ztext_pos {w : World} {v : Value} {z : Int} {l : Nat} (h : ZN w v z l) (hl : l ≤ 1000000000) (hz0 : 0 ≤ z) (htab : Lib.TabIs Tryz.prog w p10 .u64 Lib.pow10Tab) :
    Calls Tryz.prog 45 #[v] w fun e w' => e = .returned (.string ⟨(Lib.decDigits z.natAbs).toArray⟩) ∧ Below w.heap.size w w' := by
  have htabs := Lib.tabBelow_of_tabIs htab
  have hzn := h
  obtain ⟨neg, oa, cap, xs, rfl, hcap, hr, hz, hxl⟩ := h.open_
  have hv : val xs = z.natAbs := by rw [← hz, zv_abs]
  obtain ⟨G, hG⟩ : ∃ G, z.sign = G := ⟨_, rfl⟩
  have hG0 : 0 ≤ G := by rw [← hG]; rcases Int.lt_or_eq_of_le hz0 with h1 | h1; rw [Int.sign_eq_one_of_pos h1]; omega; rw [← h1]; decide
  have hG1 : (G < 0) = False := eq_false (by omega)
  have HV := hide (And.intro hv hG)
  obtain ⟨S, hS⟩ : ∃ S, Lib.decDigits z.natAbs = S := ⟨_, rfl⟩
  have HS := hide hS
  rw [hS]
  clear hz hv h hz0 hS hG
  go_enter Tryz.func45, Tryz.ntmps45
  have hb := Below.refl w.heap.size w
  have hp := Bk.new w neg (.slice oa xs.length cap)
  replace hr := hr.alloc (.cells #[.bool neg, (.slice oa xs.length cap)] 26)
  replace hzn := hzn.alloc (.cells #[.bool neg, (.slice oa xs.length cap)] 26)
  replace hb := hb.alloc hb.size (.cells #[.bool neg, (.slice oa xs.length cap)] 26)
  have f_hp := hp.facts
  go_wp2_with fail
  refine (text_rd hr (by omega) (htabs _ hb)).mono ?_
  rintro e w_1 ⟨rfl, hb_1⟩
  replace hr := hr.below hb_1 (Nat.le_refl _)
  replace hzn := hzn.below hb_1 (Nat.le_refl _)
  replace hp := hp.below hb_1 (Nat.le_refl _)
  replace hb := hb.trans (hb_1.mono hb.size)
  clear hb_1
  rw [HV.out.1, HS.out]
  clear f_hp
  have f_hp := hp.facts
  go_wp2_with fail
  refine (zsign_any hzn hl).mono ?_
  rintro e w_2 ⟨rfl, hb_2⟩
  replace hr := hr.below hb_2 (Nat.le_refl _)
  replace hzn := hzn.below hb_2 (Nat.le_refl _)
  replace hp := hp.below hb_2 (Nat.le_refl _)
  replace hb := hb.trans (hb_2.mono hb.size)
  clear hb_2
  rw [HV.out.2]
  go_wp2
  go_ret
  exact ⟨rfl, hb⟩
set_option maxHeartbeats 1000000 in
set_option maxRecDepth 20000 in
/-- tesselref2.Text of a number below 0. -/
theorem rztext_neg {w : World} {v : Value} {z : Int} {l : Nat} (h : ZN w v z l) (hl : l ≤ 1000000000) (hz0 : z < 0) (hsl : (Lib.decDigits z.natAbs).length ≤ 1000000000000000) :
    Calls Tryz.prog 57 #[v] w fun e w' => e = .returned (.string ⟨((45 : UInt8) :: Lib.decDigits z.natAbs).toArray⟩) ∧ Below w.heap.size w w' := by
  have hzn := h
  obtain ⟨neg, oa, cap, xs, rfl, hcap, hr, hz, hxl⟩ := h.open_
  have hv : val xs = z.natAbs := by rw [← hz, zv_abs]
  have hsg : z.sign = -1 := Int.sign_eq_neg_one_of_neg hz0
  have HV := hide (And.intro hv hsg)
  obtain ⟨S, hS⟩ : ∃ S, Lib.decDigits z.natAbs = S := ⟨_, rfl⟩
  have HS := hide hS
  rw [hS] at hsl ⊢
  have hno : ¬ 9223372036854775807 < 1 + S.length := by omega
  clear hz hv h hz0 hS hsg
  go_enter Tryz.func57, Tryz.ntmps57
  have hb := Below.refl w.heap.size w
  have hp := Bk.new w neg (.slice oa xs.length cap)
  replace hr := hr.alloc (.cells #[.bool neg, (.slice oa xs.length cap)] 26)
  replace hzn := hzn.alloc (.cells #[.bool neg, (.slice oa xs.length cap)] 26)
  replace hb := hb.alloc hb.size (.cells #[.bool neg, (.slice oa xs.length cap)] 26)
  have f_hp := hp.facts
  go_wp2_with fail
  refine (rzsign_any hzn hl).mono ?_
  rintro e w_1 ⟨rfl, hb_1⟩
  replace hr := hr.below hb_1 (Nat.le_refl _)
  replace hzn := hzn.below hb_1 (Nat.le_refl _)
  replace hp := hp.below hb_1 (Nat.le_refl _)
  replace hb := hb.trans (hb_1.mono hb.size)
  clear hb_1
  rw [HV.out.2]
  clear f_hp
  have f_hp := hp.facts
  go_wp2_with fail
  refine (rtext_any hr (by omega)).mono ?_
  rintro e w_2 ⟨rfl, hb_2⟩
  replace hr := hr.below hb_2 (Nat.le_refl _)
  replace hzn := hzn.below hb_2 (Nat.le_refl _)
  replace hp := hp.below hb_2 (Nat.le_refl _)
  replace hb := hb.trans (hb_2.mono hb.size)
  clear hb_2
  rw [HV.out.1, HS.out]
  go_wp2
  go_ret
  refine ⟨?_, hb⟩
  congr 2
set_option maxHeartbeats 1000000 in
set_option maxRecDepth 20000 in
/-- tesselref2.Text of a number not below 0. -/
theorem rztext_pos {w : World} {v : Value} {z : Int} {l : Nat} (h : ZN w v z l) (hl : l ≤ 1000000000) (hz0 : 0 ≤ z) :
    Calls Tryz.prog 57 #[v] w fun e w' => e = .returned (.string ⟨(Lib.decDigits z.natAbs).toArray⟩) ∧ Below w.heap.size w w' := by
  have hzn := h
  obtain ⟨neg, oa, cap, xs, rfl, hcap, hr, hz, hxl⟩ := h.open_
  have hv : val xs = z.natAbs := by rw [← hz, zv_abs]
  obtain ⟨G, hG⟩ : ∃ G, z.sign = G := ⟨_, rfl⟩
  have hG0 : 0 ≤ G := by rw [← hG]; rcases Int.lt_or_eq_of_le hz0 with h1 | h1; rw [Int.sign_eq_one_of_pos h1]; omega; rw [← h1]; decide
  have hG1 : (G < 0) = False := eq_false (by omega)
  have HV := hide (And.intro hv hG)
  obtain ⟨S, hS⟩ : ∃ S, Lib.decDigits z.natAbs = S := ⟨_, rfl⟩
  have HS := hide hS
  rw [hS]
  clear hz hv h hz0 hS hG
  go_enter Tryz.func57, Tryz.ntmps57
  have hb := Below.refl w.heap.size w
  have hp := Bk.new w neg (.slice oa xs.length cap)
  replace hr := hr.alloc (.cells #[.bool neg, (.slice oa xs.length cap)] 26)
  replace hzn := hzn.alloc (.cells #[.bool neg, (.slice oa xs.length cap)] 26)
  replace hb := hb.alloc hb.size (.cells #[.bool neg, (.slice oa xs.length cap)] 26)
  have f_hp := hp.facts
  go_wp2_with fail
  refine (rzsign_any hzn hl).mono ?_
  rintro e w_1 ⟨rfl, hb_1⟩
  replace hr := hr.below hb_1 (Nat.le_refl _)
  replace hzn := hzn.below hb_1 (Nat.le_refl _)
  replace hp := hp.below hb_1 (Nat.le_refl _)
  replace hb := hb.trans (hb_1.mono hb.size)
  clear hb_1
  rw [HV.out.2]
  clear f_hp
  have f_hp := hp.facts
  go_wp2_with fail
  refine (rtext_any hr (by omega)).mono ?_
  rintro e w_2 ⟨rfl, hb_2⟩
  replace hr := hr.below hb_2 (Nat.le_refl _)
  replace hzn := hzn.below hb_2 (Nat.le_refl _)
  replace hp := hp.below hb_2 (Nat.le_refl _)
  replace hb := hb.trans (hb_2.mono hb.size)
  clear hb_2
  rw [HV.out.1, HS.out]
  go_wp2
  go_ret
  exact ⟨rfl, hb⟩
open Go
set_option linter.unusedVariables false
/-- Is a text a whole number's, and which? -/
def zok (s : ByteArray) : Bool := if minusB s = true then digitsB (s.extract 1 s.size).data.toList else digitsB s.data.toList
def zvl (s : ByteArray) : Int := if minusB s = true then -((pval (s.extract 1 s.size).data.toList : Nat) : Int) else ((pval s.data.toList : Nat) : Int)
theorem digits_all' {l : List UInt8} (h : digitsB l = true) : l.all isD = true := by unfold digitsB at h; rw [Bool.and_eq_true] at h; exact h.1
theorem digits_pos {s : ByteArray} (h : digitsB s.data.toList = true) : 0 < s.size := by
  rcases Nat.eq_zero_or_pos s.size with h0 | h0
  · rw [Lib.size_eq, List.length_eq_zero_iff] at h0
    rw [h0] at h
    exact absurd h (by decide)
  · exact h0
theorem zvl_len {s : ByteArray} (hs : s.size ≤ 65536) (h : zok s = true) : (dig (zvl s).natAbs).length ≤ 8192 := by
  unfold zok at h; unfold zvl
  have hr := rest_size (s := s)
  split
  · rename_i hm
    rw [if_pos hm] at h
    rw [Int.natAbs_neg, Int.natAbs_natCast]
    exact pval_dig_length (digits_all' h) (by rw [← Lib.size_eq]; omega)
  · rename_i hm
    rw [if_neg hm] at h
    rw [Int.natAbs_natCast]
    exact pval_dig_length (digits_all' h) (by rw [← Lib.size_eq]; omega)
theorem zparse_no (s : ByteArray) (w : World) (hs : s.size ≤ 65536) (h : zok s = false) :
    Calls Tryz.prog 49 #[.string s] w fun e w' => e = .returned (.tuple #[.agg #[.bool false, .slice none 0 0], .int .i64 7]) ∧ Below w.heap.size w w' := by
  unfold zok at h
  have hr := rest_size (s := s)
  cases hm : minusB s with
  | true => rw [if_pos hm] at h; exact zparse_bad s w hs _ true (fun w => scut1 s w (by omega) hm) (by omega) h
  | false => rw [if_neg (by rw [hm]; exact Bool.false_ne_true)] at h; exact zparse_bad s w hs _ false (fun w => scut0 s w hm) hs h
theorem zparse_ok (s : ByteArray) (w : World) (hs : s.size ≤ 65536) (h : zok s = true) :
    Calls Tryz.prog 49 #[.string s] w fun e w' => ∃ v, e = .returned (.tuple #[v, .int .i64 0]) ∧ ZC w' v (zvl s) ∧ Below w.heap.size w w' := by
  unfold zok at h
  unfold zvl
  have hr := rest_size (s := s)
  cases hm : minusB s with
  | true =>
    rw [if_pos hm] at h
    exact zparse_good s w hs _ true _ (fun w => scut1 s w (by omega) hm) (by omega) h rfl
  | false =>
    rw [if_neg (by rw [hm]; exact Bool.false_ne_true)] at h
    exact zparse_good s w hs _ false _ (fun w => scut0 s w hm) hs h rfl
theorem ris_any (s : ByteArray) (w : World) (hs : s.size ≤ 65536) :
    Calls Tryz.prog 51 #[.string s] w fun e w' => e = .returned (.bool (zok s)) ∧ w' = w := by
  unfold zok
  cases hm : minusB s with
  | true => exact ris_minus s w hs hm
  | false => exact ris_plain s w hs hm
theorem rzparse_ok (s : ByteArray) (w : World) (hs : s.size ≤ 65536) (h : zok s = true) :
    Calls Tryz.prog 52 #[.string s] w fun e w' => ∃ v, e = .returned v ∧ ZC w' v (zvl s) ∧ Below w.heap.size w w' := by
  unfold zok at h
  unfold zvl
  cases hm : minusB s with
  | true => rw [if_pos hm] at h; exact rzparse_minus s w hs hm (digits_all' h)
  | false => rw [if_neg (by rw [hm]; exact Bool.false_ne_true)] at h; exact rzparse_plain s w hs hm (digits_pos h) (digits_all' h)
theorem sg_no {c : UInt8} (h : sgB c = false) : ((c.toNat : Int) == 43) = false ∧ ((c.toNat : Int) == 45) = false := by
  unfold sgB at h
  rw [Bool.or_eq_false_iff, beq_eq_false_iff_ne, beq_eq_false_iff_ne] at h
  constructor
  · rw [beq_eq_false_iff_ne]; intro e; exact h.1 (UInt8.toNat_inj.1 (by show c.toNat = 43; omega))
  · rw [beq_eq_false_iff_ne]; intro e; exact h.2 (UInt8.toNat_inj.1 (by show c.toNat = 45; omega))
theorem sg_yes {c : UInt8} (h : sgB c = true) : ((c.toNat : Int) == 43) = true ∨ (((c.toNat : Int) == 43) = false ∧ ((c.toNat : Int) == 45) = true) := by
  unfold sgB at h
  rw [Bool.or_eq_true, beq_iff_eq, beq_iff_eq] at h
  rcases h with rfl | rfl
  · exact .inl rfl
  · exact .inr ⟨rfl, rfl⟩
set_option maxHeartbeats 1000000 in
set_option maxRecDepth 20000 in
theorem rSplit_any (s : ByteArray) (w : World) (hs : s.size ≤ 65536) (K : Nat) (hK : K = 0 ∨ ∃ h : K < s.size, 0 < K ∧ sgB (s[K]'h) = true) (hn : ∀ j, K < j → ∀ h : j < s.size, sgB (s[j]'h) = false) :
    Calls Tryz.prog 53 #[.string s] w fun e w' => e = .returned (.int .i64 (K : Int)) ∧ w = w' := by
  have HK := hide hK
  have HN := hide hn
  have hw : wrap64 ((s.size : Int) - 1) = (s.size : Int) - 1 := by unfold wrap64; omega
  clear hK hn
  go_enter Tryz.func53, Tryz.ntmps53
  go_wp2_with fail
  go_loop [3] (fun i => ∃ k : Int, i = .int .i64 k ∧ -1 ≤ k ∧ k < s.size ∧ ((K : Int) ≤ k ∨ K = 0)) (fun i => (intOf i + 1).toNat)
  case atStart => exact ⟨(s.size : Int) - 1, rfl, by omega, by omega, by
    rcases HK.out with h | ⟨h, _⟩
    · exact .inr h
    · left; omega⟩
  case round =>
    obtain ⟨k, rfl, hk1, hk2, hk3⟩ := hrel
    by_cases hpos : 0 < k
    · obtain ⟨n, rfl⟩ : ∃ n : Nat, k = (n : Int) := ⟨k.toNat, by omega⟩
      have hlt : n < s.size := by omega
      have hw2 : wrap64 ((n : Int) - 1) = (n : Int) - 1 := by unfold wrap64; omega
      by_cases hKn : K < n
      · obtain ⟨b1, b2⟩ := sg_no (HN.out n hKn hlt)
        clear hw hk1
        go_wp2
        all_goals go_round
        case rel => exact ⟨(n : Int) - 1, rfl, by omega, by omega, .inl (by omega)⟩
        case measure => (first | (simp [intOf]; done) | (simp [intOf]; omega))
      · obtain rfl : K = n := by omega
        have hsg : sgB (s[K]'hlt) = true := by
          rcases HK.out with h | ⟨h, _, h2⟩
          · omega
          · exact h2
        clear hw hw2 hk1
        rcases sg_yes hsg with b1 | ⟨b1, b2⟩
        · go_wp2
          all_goals go_ret
          all_goals exact ⟨rfl, rfl⟩
        · go_wp2
          all_goals go_ret
          all_goals exact ⟨rfl, rfl⟩
    · obtain rfl : K = 0 := by
        rcases HK.out with h | ⟨h, h1, _⟩
        · exact h
        · omega
      have hp : ¬ (0 : Int) < k := hpos
      clear hw
      go_wp2_with fail
      go_ret
      exact ⟨rfl, rfl⟩
theorem rDigits_b (s : ByteArray) (w : World) (hs : s.size ≤ 1000000) :
    Calls Tryz.prog 83 #[.string s] w fun e w' => e = .returned (.bool (digitsB s.data.toList)) ∧ Below w.heap.size w w' :=
  Calls.mono (rDigits_any s w hs) fun e w' ⟨h1, h2⟩ => ⟨h1, by rw [← h2]; exact Below.refl _ _⟩
section
variable {w : World}
set_option maxHeartbeats 4000000 in
set_option maxRecDepth 20000 in
theorem ramount_0 (w : World) : Calls Tryz.prog 54 #[.string ⟨#[]⟩] w fun e w' => ∃ v, e = .returned (.tuple #[v, .bool true]) ∧ ZC w' v 1 ∧ Below w.heap.size w w' := by
  have HE := hide (show ((⟨#[]⟩ : ByteArray).toList == []) = true from by decide +kernel)
  go_enter Tryz.func54, Tryz.ntmps54
  have hs := St.nil w
  refine wp_seq_k ?_
  intro K1 hK1
  refine rg [0, 1] ?_
  refine sq ?_
  refine .al hs ?_; clear hs; intro p_b1 w_1 hs n1 kb_b1
  refine sq ?_
  refine .mv ?_
  apply wpSq_end
  refine hK1 _ _ ?_
  refine wp_seq_k ?_
  intro K2 hK2
  refine wp_seq_k ?_
  intro K3 hK3
  refine rg [0, 1] ?_
  refine sq ?_
  refine .mv ?_
  refine sq ?_
  refine .r0 ?_
  apply wpSq_end
  refine hK3 _ _ ?_
  refine wp_cond_true (congrArg Value.bool (show _ = true from (by decide +kernel))) ?_
  refine wp_seq_k ?_
  intro K4 hK4
  refine rg [0, 1, 2] ?_
  refine sq ?_
  intro K hK
  go_big_op
  go_fit (ri_any 1 _ (by decide) (by decide))
  rintro e w_2 ⟨v_v, rfl, v, hb_2⟩
  replace hs := hs.bl hb_2
  replace v := v.rd
  obtain ⟨n_v, o_v, k_v, c_v, rfl⟩ := v.open2
  have Lv := hide (v.lenOf (zlen_i (1 : Int) (by decide) (by decide)))
  refine hK _ _ rfl trivial ?_
  clear hK K
  refine sq ?_
  refine .s2 hs.g0 (fun _ => hs.u0 kb_b1) ?_; clear hs; intro w_3 hs hd3 ho3
  refine sq ?_
  refine .mv ?_
  apply wpSq_end
  refine hK4 _ _ ?_
  refine wp_ret ?_
  try dsimp only [Exit.then, Exit.inBlock]
  obtain ⟨r0_0, r0_1⟩ := hs.g0.f2
  refine bodyPost_ret (v := (.tuple #[(.agg #[.bool n_v, .slice o_v k_v c_v]), (.bool true)])) (by simp [results, Tryz.results54, go_sem, r0_0, r0_1]) rfl ?_
  have k2_3 := ko hd3 ho3
  replace v := v.k k2_3
  exact ⟨_, rfl, v, hs.b⟩
set_option maxHeartbeats 4000000 in
set_option maxRecDepth 20000 in
theorem ramount_ok (s : ByteArray) (w : World) (hsz : s.size ≤ 65536) (h0 : (s.toList == []) = false) (hd : digitsB s.data.toList = true) (hz : zok s = true) :
    Calls Tryz.prog 54 #[.string s] w fun e w' => ∃ v, e = .returned (.tuple #[v, .bool true]) ∧ ZC w' v (zvl s) ∧ Below w.heap.size w w' := by
  have HD := hide hd
  have HZ := hide hz
  have HL := hide (zvl_len hsz hz)
  clear hd hz
  go_enter Tryz.func54, Tryz.ntmps54
  have hs := St.nil w
  refine wp_seq_k ?_
  intro K1 hK1
  refine rg [0, 1] ?_
  refine sq ?_
  refine .al hs ?_; clear hs; intro p_b1 w_1 hs n1 kb_b1
  refine sq ?_
  refine .mv ?_
  apply wpSq_end
  refine hK1 _ _ ?_
  refine wp_seq_k ?_
  intro K2 hK2
  refine wp_seq_k ?_
  intro K3 hK3
  refine rg [0, 1] ?_
  refine sq ?_
  refine .mv ?_
  refine sq ?_
  refine .r0 ?_
  apply wpSq_end
  refine hK3 _ _ ?_
  refine cf ?_
  refine wp_skip ?_
  refine hK2 _ _ ?_
  refine wp_seq_k ?_
  intro K4 hK4
  refine wp_seq_k ?_
  intro K5 hK5
  refine rg [0, 1, 2] ?_
  refine sq ?_
  refine .mv ?_
  refine sq ?_
  intro K hK
  go_big_op
  go_fit (rDigits_b s _ (by omega))
  rintro e w_2 ⟨rfl, hb_2⟩
  replace hs := hs.bl hb_2
  rw [HD.out]
  refine hK _ _ rfl trivial ?_
  clear hK K
  refine sq ?_
  refine .r0 ?_
  apply wpSq_end
  refine hK5 _ _ ?_
  refine cf ?_
  refine wp_skip ?_
  refine hK4 _ _ ?_
  refine wp_seq_k ?_
  intro K6 hK6
  refine rg [0, 1, 2, 3] ?_
  refine sq ?_
  refine .mv ?_
  refine sq ?_
  intro K hK
  go_big_op
  go_fit (rzparse_ok s _ hsz HZ.out)
  rintro e w_3 ⟨v_v, rfl, v, hb_3⟩
  replace hs := hs.bl hb_3
  obtain ⟨n_v, o_v, k_v, c_v, rfl⟩ := v.open2
  have Lv := hide (v.lenOf (HL.out))
  refine hK _ _ rfl trivial ?_
  clear hK K
  refine sq ?_
  refine .s2 hs.g0 (fun _ => hs.u0 kb_b1) ?_; clear hs; intro w_4 hs hd4 ho4
  refine sq ?_
  refine .mv ?_
  apply wpSq_end
  refine hK6 _ _ ?_
  refine wp_ret ?_
  try dsimp only [Exit.then, Exit.inBlock]
  obtain ⟨r0_0, r0_1⟩ := hs.g0.f2
  refine bodyPost_ret (v := (.tuple #[(.agg #[.bool n_v, .slice o_v k_v c_v]), (.bool true)])) (by simp [results, Tryz.results54, go_sem, r0_0, r0_1]) rfl ?_
  have k3_4 := ko hd4 ho4
  replace v := v.k k3_4
  exact ⟨_, rfl, v, hs.b⟩
set_option maxHeartbeats 4000000 in
set_option maxRecDepth 20000 in
theorem ramount_no (s : ByteArray) (w : World) (hsz : s.size ≤ 65536) (h0 : (s.toList == []) = false) (hd : digitsB s.data.toList = false) :
    Calls Tryz.prog 54 #[.string s] w fun e w' => e = .returned (.tuple #[.agg #[.bool false, .slice none 0 0], .bool false]) ∧ Below w.heap.size w w' := by
  have HD := hide hd
  clear hd
  go_enter Tryz.func54, Tryz.ntmps54
  have hs := St.nil w
  refine wp_seq_k ?_
  intro K1 hK1
  refine rg [0, 1] ?_
  refine sq ?_
  refine .al hs ?_; clear hs; intro p_b1 w_1 hs n1 kb_b1
  refine sq ?_
  refine .mv ?_
  apply wpSq_end
  refine hK1 _ _ ?_
  refine wp_seq_k ?_
  intro K2 hK2
  refine wp_seq_k ?_
  intro K3 hK3
  refine rg [0, 1] ?_
  refine sq ?_
  refine .mv ?_
  refine sq ?_
  refine .r0 ?_
  apply wpSq_end
  refine hK3 _ _ ?_
  refine cf ?_
  refine wp_skip ?_
  refine hK2 _ _ ?_
  refine wp_seq_k ?_
  intro K4 hK4
  refine wp_seq_k ?_
  intro K5 hK5
  refine rg [0, 1, 2] ?_
  refine sq ?_
  refine .mv ?_
  refine sq ?_
  intro K hK
  go_big_op
  go_fit (rDigits_b s _ (by omega))
  rintro e w_2 ⟨rfl, hb_2⟩
  replace hs := hs.bl hb_2
  rw [HD.out]
  refine hK _ _ rfl trivial ?_
  clear hK K
  refine sq ?_
  refine .r0 ?_
  apply wpSq_end
  refine hK5 _ _ ?_
  refine ct ?_
  refine wp_seq_k ?_
  intro K6 hK6
  refine rg [0, 1, 2] ?_
  refine sq ?_
  refine .r0 ?_
  refine sq ?_
  refine .s2 hs.g0 (fun _ => hs.u0 kb_b1) ?_; clear hs; intro w_3 hs hd3 ho3
  refine sq ?_
  refine .mv ?_
  apply wpSq_end
  refine hK6 _ _ ?_
  refine wp_ret ?_
  try dsimp only [Exit.then, Exit.inBlock]
  obtain ⟨r0_0, r0_1⟩ := hs.g0.f2
  refine bodyPost_ret (v := (.tuple #[(.agg #[.bool false, .slice none 0 0]), (.bool false)])) (by simp [results, Tryz.results54, go_sem, r0_0, r0_1]) rfl ?_
  have hb := hs.b
  exact ⟨rfl, hb⟩
end
open Go.Shelf
/-- The bytes of the ten digits. -/
def tens : List UInt8 := [48, 49, 50, 51, 52, 53, 54, 55, 56, 57]
/-- What is left of a text behind the digits it begins with. -/
def undig (l : List UInt8) : List UInt8 := Lib.trimLeftS l tens
theorem trimS_any (s : ByteArray) (w : World) :
    Calls Tryz.prog 80 #[.string s, .string ⟨#[48, 49, 50, 51, 52, 53, 54, 55, 56, 57]⟩] w fun e w' => e = .returned (.string ⟨(undig s.data.toList).toArray⟩) ∧ Below w.heap.size w w' :=
  Any.strings_TrimLeft_laid Tryz.lays161 (by kernel_rfl) s ⟨#[48, 49, 50, 51, 52, 53, 54, 55, 56, 57]⟩ w (by decide) (ascii_of_all (by decide))
/-- A whole number's text. -/
def ztx (z : Int) : List UInt8 := if z < 0 then (45 : UInt8) :: Lib.decDigits z.natAbs else Lib.decDigits z.natAbs
def zts (z : Int) : ByteArray := ⟨(ztx z).toArray⟩
theorem dec_le {z : Int} {l : Nat} (h : (dig z.natAbs).length ≤ l) : (Lib.decDigits z.natAbs).length ≤ 10 * (l + 1) :=
  dec_len' (L := l + 1) (Nat.lt_of_lt_of_le (lt_pw_dig _) (pw_mono (by omega))) (by omega)
theorem zts_size {z : Int} {l : Nat} (h : (dig z.natAbs).length ≤ l) : (zts z).size ≤ 10 * l + 11 := by
  have := dec_le h
  unfold zts ztx
  show (List.toArray _).size ≤ _
  split <;> simp <;> omega
theorem ztext_s {w : World} {v : Value} {z : Int} {l : Nat} (h : ZN w v z l) (hl : l ≤ 1000000000) (htab : Lib.TabIs Tryz.prog w p10 .u64 Lib.pow10Tab) :
    Calls Tryz.prog 45 #[v] w fun e w' => e = .returned (.string (zts z)) ∧ Below w.heap.size w w' := by
  by_cases h0 : z < 0
  · unfold zts ztx; rw [if_pos h0]
    exact ztext_neg h hl h0 (Nat.le_trans (dec_le h.len) (by omega)) htab
  · unfold zts ztx; rw [if_neg h0]
    exact ztext_pos h hl (by omega) htab
theorem rztext_s {w : World} {v : Value} {z : Int} {l : Nat} (h : ZN w v z l) (hl : l ≤ 1000000000) :
    Calls Tryz.prog 57 #[v] w fun e w' => e = .returned (.string (zts z)) ∧ Below w.heap.size w w' := by
  by_cases h0 : z < 0
  · unfold zts ztx; rw [if_pos h0]
    exact rztext_neg h hl h0 (Nat.le_trans (dec_le h.len) (by omega))
  · unfold zts ztx; rw [if_neg h0]
    exact rztext_pos h hl (by omega)
theorem dec1 (n : Nat) (h : n < 10) : Lib.decDigits n = [UInt8.ofNat (48 + n)] := by
  rw [Lib.decDigits, dif_pos h]
/-- The parts of a Gaussian integer's text. -/
def gRe (x : Int) : ByteArray := if x = 0 then ⟨#[]⟩ else zts x
def gSg (x y : Int) : ByteArray := if y < 0 then ⟨#[45]⟩ else if x = 0 then ⟨#[]⟩ else ⟨#[43]⟩
def gAm (y : Int) : ByteArray := if 1 < bitsN y.natAbs then zts (y.natAbs : Int) else ⟨#[]⟩
def gts (x y : Int) : ByteArray := if y = 0 then zts x else gRe x ++ gSg x y ++ gAm y ++ ⟨#[105]⟩
section
variable {w : World} {va vb : Value} {x y u v : Int} {l m k n : Nat}
set_option maxHeartbeats 4000000 in
set_option maxRecDepth 20000 in
theorem gText_re (ha : PN w va x l 0 m) (hl : l ≤ 10000000) (hm : m ≤ 10000000) (htab : Lib.TabIs Tryz.prog w p10 .u64 Lib.pow10Tab) :
    Calls Tryz.prog 18 #[va] w fun e w' => e = .returned (.string (zts x)) ∧ Below w.heap.size w w' := by
  have htabs := Lib.tabBelow_of_tabIs htab
  obtain ⟨S, hS⟩ : ∃ S, zts x = S := ⟨_, rfl⟩
  have HS := hide hS
  rw [hS]
  clear hS
  obtain ⟨n_0a, o_0a, k_0a, c_0a, n_0b, o_0b, k_0b, c_0b, rfl, ha1, ha2⟩ := ha
  go_enter Tryz.func18, Tryz.ntmps18
  have hs := St.nil w
  refine wp_seq_k ?_
  intro K1 hK1
  refine rg [0, 1] ?_
  refine sq ?_
  refine .al hs ?_; clear hs; intro p_b1 w_1 hs n1 kb_b1
  refine sq ?_
  refine .mv ?_
  apply wpSq_end
  refine hK1 _ _ ?_
  refine wp_seq_k ?_
  intro K2 hK2
  refine wp_seq_k ?_
  intro K3 hK3
  refine rg [0, 1, 2, 3] ?_
  refine sq ?_
  refine .r0 ?_
  refine sq ?_
  refine .r4 hs.g0.f4 ?_
  refine sq ?_
  intro K hK
  have k0_1 := kb n1
  replace ha2 := ha2.k k0_1
  go_big_op
  go_fit (zsign_any ha2 (by omega) )
  rintro e w_2 ⟨rfl, hb_2⟩
  replace hs := hs.bl hb_2
  refine hK _ _ rfl trivial ?_
  clear hK K
  refine sq ?_
  refine .r0 ?_
  apply wpSq_end
  refine hK3 _ _ ?_
  refine ct ?_
  refine wp_seq_k ?_
  intro K4 hK4
  refine rg [0, 1, 2, 3] ?_
  refine sq ?_
  refine .r0 ?_
  refine sq ?_
  refine .r4 hs.g0.f4 ?_
  refine sq ?_
  intro K hK
  have k0_2 := k0_1.b hb_2
  replace ha1 := ha1.k k0_2
  have hb := hs.b
  go_big_op
  go_fit (ztext_s ha1 (by omega) (htabs _ hb))
  rintro e w_3 ⟨rfl, hb_3⟩
  clear hb
  replace hs := hs.bl hb_3
  rw [HS.out]
  refine hK _ _ rfl trivial ?_
  clear hK K
  refine sq ?_
  refine .mv ?_
  apply wpSq_end
  refine hK4 _ _ ?_
  refine wp_ret ?_
  try dsimp only [Exit.then, Exit.inBlock]
  refine bodyPost_ret (v := (.string S)) (by simp [results, Tryz.results18, go_sem]) rfl ?_
  have hb := hs.b
  exact ⟨rfl, hb⟩
set_option maxHeartbeats 4000000 in
set_option maxRecDepth 20000 in
theorem gText_zmo {S T : ByteArray} (ha : PN w va 0 l y m) (hl : l ≤ 10000000) (hm : m ≤ 10000000) (hy : y < 0) (hA : bitsN y.natAbs ≤ 1) (hS : zts x = S) (hT : zts (y.natAbs : Int) = T) (hs : S.size ≤ 10 * l + 11) (ht : T.size ≤ 10 * m + 11) (htab : Lib.TabIs Tryz.prog w p10 .u64 Lib.pow10Tab) :
    Calls Tryz.prog 18 #[va] w fun e w' => e = .returned (.string ((⟨#[]⟩ : ByteArray) ++ ⟨#[45]⟩ ++ ⟨#[]⟩ ++ ⟨#[105]⟩)) ∧ Below w.heap.size w w' := by
  have htabs := Lib.tabBelow_of_tabIs htab
  have HS := hide hS
  have HT := hide hT
  have HY := hide (show y.sign = -1 from Int.sign_eq_neg_one_of_neg hy)
  obtain ⟨B, hB⟩ : ∃ B, bitsN y.natAbs = B := ⟨_, rfl⟩
  rw [hB] at hA
  have HB := hide hB
  clear hB hS hT hy
  obtain ⟨n_0a, o_0a, k_0a, c_0a, n_0b, o_0b, k_0b, c_0b, rfl, ha1, ha2⟩ := ha
  go_enter Tryz.func18, Tryz.ntmps18
  have hs := St.nil w
  refine wp_seq_k ?_
  intro K1 hK1
  refine rg [0, 1] ?_
  refine sq ?_
  refine .al hs ?_; clear hs; intro p_b1 w_1 hs n1 kb_b1
  refine sq ?_
  refine .mv ?_
  apply wpSq_end
  refine hK1 _ _ ?_
  refine wp_seq_k ?_
  intro K2 hK2
  refine wp_seq_k ?_
  intro K3 hK3
  refine rg [0, 1, 2, 3] ?_
  refine sq ?_
  refine .r0 ?_
  refine sq ?_
  refine .r4 hs.g0.f4 ?_
  refine sq ?_
  intro K hK
  have k0_1 := kb n1
  replace ha2 := ha2.k k0_1
  go_big_op
  go_fit (zsign_any ha2 (by omega) )
  rintro e w_2 ⟨rfl, hb_2⟩
  replace hs := hs.bl hb_2
  rw [HY.out]
  refine hK _ _ rfl trivial ?_
  clear hK K
  refine sq ?_
  refine .r0 ?_
  apply wpSq_end
  refine hK3 _ _ ?_
  refine cf ?_
  refine wp_skip ?_
  refine hK2 _ _ ?_
  refine wp_seq_k ?_
  intro K4 hK4
  refine rg [0, 1, 2] ?_
  refine sq ?_
  refine .mv ?_
  refine sq ?_
  refine .mv ?_
  refine sq ?_
  refine .mv ?_
  apply wpSq_end
  refine hK4 _ _ ?_
  refine wp_seq_k ?_
  intro K5 hK5
  refine wp_seq_k ?_
  intro K6 hK6
  refine rg [0, 1, 2, 3] ?_
  refine sq ?_
  refine .r0 ?_
  refine sq ?_
  refine .r4 hs.g0.f4 ?_
  refine sq ?_
  intro K hK
  have k0_2 := k0_1.b hb_2
  replace ha1 := ha1.k k0_2
  go_big_op
  go_fit (zsign_any ha1 (by omega) )
  rintro e w_3 ⟨rfl, hb_3⟩
  replace hs := hs.bl hb_3
  refine hK _ _ rfl trivial ?_
  clear hK K
  refine sq ?_
  refine .r0 ?_
  apply wpSq_end
  refine hK6 _ _ ?_
  refine cf ?_
  refine wp_skip ?_
  refine hK5 _ _ ?_
  refine wp_seq_k ?_
  intro K7 hK7
  refine wp_seq_k ?_
  intro K8 hK8
  refine rg [0, 1, 2, 3] ?_
  refine sq ?_
  refine .r0 ?_
  refine sq ?_
  refine .r4 hs.g0.f4 ?_
  refine sq ?_
  intro K hK
  have k1_3 := (kb hb_2).b hb_3
  replace ha2 := ha2.k k1_3
  go_big_op
  go_fit (zsign_any ha2 (by omega) )
  rintro e w_4 ⟨rfl, hb_4⟩
  replace hs := hs.bl hb_4
  rw [HY.out]
  refine hK _ _ rfl trivial ?_
  clear hK K
  refine sq ?_
  refine .r0 ?_
  apply wpSq_end
  refine hK8 _ _ ?_
  refine ct ?_
  refine rg [0] ?_
  refine sq ?_
  refine .mv ?_
  apply wpSq_end
  refine hK7 _ _ ?_
  refine wp_seq_k ?_
  intro K9 hK9
  refine wp_seq_k ?_
  intro K10 hK10
  refine rg [0, 1, 2, 3] ?_
  refine sq ?_
  refine .r0 ?_
  refine sq ?_
  refine .r4 hs.g0.f4 ?_
  refine sq ?_
  intro K hK
  have k3_4 := kb hb_4
  replace ha2 := ha2.k k3_4
  go_big_op
  go_fit (zbits_any ha2 (by omega) )
  rintro e w_5 ⟨rfl, hb_5⟩
  replace hs := hs.bl hb_5
  rw [HB.out]
  refine hK _ _ rfl trivial ?_
  clear hK K
  refine sq ?_
  refine .r0 ?_
  apply wpSq_end
  refine hK10 _ _ ?_
  refine cf ?_
  refine wp_skip ?_
  refine hK9 _ _ ?_
  refine wp_seq_k ?_
  intro K11 hK11
  refine rg [0, 1, 2, 3, 4, 5, 6] ?_
  refine sq ?_
  refine .mv ?_
  refine sq ?_
  refine .mv ?_
  refine sq ?_
  refine .r0 ?_
  refine sq ?_
  refine .mv ?_
  refine sq ?_
  refine .r0 ?_
  refine sq ?_
  refine .r0 ?_
  refine sq ?_
  refine .mv ?_
  apply wpSq_end
  refine hK11 _ _ ?_
  refine wp_ret ?_
  try dsimp only [Exit.then, Exit.inBlock]
  refine bodyPost_ret (v := (.string ((⟨#[]⟩ : ByteArray) ++ ⟨#[45]⟩ ++ ⟨#[]⟩ ++ ⟨#[105]⟩))) (by simp [results, Tryz.results18, go_sem]) rfl ?_
  have hb := hs.b
  exact ⟨rfl, hb⟩
set_option maxHeartbeats 4000000 in
set_option maxRecDepth 20000 in
theorem gText_zmb {S T : ByteArray} (ha : PN w va 0 l y m) (hl : l ≤ 10000000) (hm : m ≤ 10000000) (hy : y < 0) (hA : 1 < bitsN y.natAbs) (hS : zts x = S) (hT : zts (y.natAbs : Int) = T) (hs : S.size ≤ 10 * l + 11) (ht : T.size ≤ 10 * m + 11) (htab : Lib.TabIs Tryz.prog w p10 .u64 Lib.pow10Tab) :
    Calls Tryz.prog 18 #[va] w fun e w' => e = .returned (.string ((⟨#[]⟩ : ByteArray) ++ ⟨#[45]⟩ ++ T ++ ⟨#[105]⟩)) ∧ Below w.heap.size w w' := by
  have htabs := Lib.tabBelow_of_tabIs htab
  have HS := hide hS
  have HT := hide hT
  have HY := hide (show y.sign = -1 from Int.sign_eq_neg_one_of_neg hy)
  obtain ⟨B, hB⟩ : ∃ B, bitsN y.natAbs = B := ⟨_, rfl⟩
  rw [hB] at hA
  have HB := hide hB
  clear hB hS hT hy
  obtain ⟨n_0a, o_0a, k_0a, c_0a, n_0b, o_0b, k_0b, c_0b, rfl, ha1, ha2⟩ := ha
  go_enter Tryz.func18, Tryz.ntmps18
  have hs := St.nil w
  refine wp_seq_k ?_
  intro K1 hK1
  refine rg [0, 1] ?_
  refine sq ?_
  refine .al hs ?_; clear hs; intro p_b1 w_1 hs n1 kb_b1
  refine sq ?_
  refine .mv ?_
  apply wpSq_end
  refine hK1 _ _ ?_
  refine wp_seq_k ?_
  intro K2 hK2
  refine wp_seq_k ?_
  intro K3 hK3
  refine rg [0, 1, 2, 3] ?_
  refine sq ?_
  refine .r0 ?_
  refine sq ?_
  refine .r4 hs.g0.f4 ?_
  refine sq ?_
  intro K hK
  have k0_1 := kb n1
  replace ha2 := ha2.k k0_1
  go_big_op
  go_fit (zsign_any ha2 (by omega) )
  rintro e w_2 ⟨rfl, hb_2⟩
  replace hs := hs.bl hb_2
  rw [HY.out]
  refine hK _ _ rfl trivial ?_
  clear hK K
  refine sq ?_
  refine .r0 ?_
  apply wpSq_end
  refine hK3 _ _ ?_
  refine cf ?_
  refine wp_skip ?_
  refine hK2 _ _ ?_
  refine wp_seq_k ?_
  intro K4 hK4
  refine rg [0, 1, 2] ?_
  refine sq ?_
  refine .mv ?_
  refine sq ?_
  refine .mv ?_
  refine sq ?_
  refine .mv ?_
  apply wpSq_end
  refine hK4 _ _ ?_
  refine wp_seq_k ?_
  intro K5 hK5
  refine wp_seq_k ?_
  intro K6 hK6
  refine rg [0, 1, 2, 3] ?_
  refine sq ?_
  refine .r0 ?_
  refine sq ?_
  refine .r4 hs.g0.f4 ?_
  refine sq ?_
  intro K hK
  have k0_2 := k0_1.b hb_2
  replace ha1 := ha1.k k0_2
  go_big_op
  go_fit (zsign_any ha1 (by omega) )
  rintro e w_3 ⟨rfl, hb_3⟩
  replace hs := hs.bl hb_3
  refine hK _ _ rfl trivial ?_
  clear hK K
  refine sq ?_
  refine .r0 ?_
  apply wpSq_end
  refine hK6 _ _ ?_
  refine cf ?_
  refine wp_skip ?_
  refine hK5 _ _ ?_
  refine wp_seq_k ?_
  intro K7 hK7
  refine wp_seq_k ?_
  intro K8 hK8
  refine rg [0, 1, 2, 3] ?_
  refine sq ?_
  refine .r0 ?_
  refine sq ?_
  refine .r4 hs.g0.f4 ?_
  refine sq ?_
  intro K hK
  have k1_3 := (kb hb_2).b hb_3
  replace ha2 := ha2.k k1_3
  go_big_op
  go_fit (zsign_any ha2 (by omega) )
  rintro e w_4 ⟨rfl, hb_4⟩
  replace hs := hs.bl hb_4
  rw [HY.out]
  refine hK _ _ rfl trivial ?_
  clear hK K
  refine sq ?_
  refine .r0 ?_
  apply wpSq_end
  refine hK8 _ _ ?_
  refine ct ?_
  refine rg [0] ?_
  refine sq ?_
  refine .mv ?_
  apply wpSq_end
  refine hK7 _ _ ?_
  refine wp_seq_k ?_
  intro K9 hK9
  refine wp_seq_k ?_
  intro K10 hK10
  refine rg [0, 1, 2, 3] ?_
  refine sq ?_
  refine .r0 ?_
  refine sq ?_
  refine .r4 hs.g0.f4 ?_
  refine sq ?_
  intro K hK
  have k3_4 := kb hb_4
  replace ha2 := ha2.k k3_4
  go_big_op
  go_fit (zbits_any ha2 (by omega) )
  rintro e w_5 ⟨rfl, hb_5⟩
  replace hs := hs.bl hb_5
  rw [HB.out]
  refine hK _ _ rfl trivial ?_
  clear hK K
  refine sq ?_
  refine .r0 ?_
  apply wpSq_end
  refine hK10 _ _ ?_
  refine ct ?_
  refine rg [0, 1, 2, 3, 4] ?_
  refine sq ?_
  refine .r0 ?_
  refine sq ?_
  refine .r4 hs.g0.f4 ?_
  refine sq ?_
  intro K hK
  have k4_5 := kb hb_5
  replace ha2 := ha2.k k4_5
  go_big_op
  go_fit (zabs_any ha2 (by omega) )
  rintro e w_6 ⟨v_g, rfl, g, hb_6⟩
  replace hs := hs.bl hb_6
  replace g := g.rd
  obtain ⟨n_g, o_g, k_g, c_g, rfl⟩ := g.open2
  have Lg := hide (g.lenOf (zlen_abs (ha2.len)))
  refine hK _ _ rfl trivial ?_
  clear hK K
  refine sq ?_
  intro K hK
  have hb := hs.b
  go_big_op
  go_fit (ztext_s (g.zn Lg.out) (by omega) (htabs _ hb))
  rintro e w_7 ⟨rfl, hb_7⟩
  clear hb
  replace hs := hs.bl hb_7
  rw [HT.out]
  refine hK _ _ rfl trivial ?_
  clear hK K
  refine sq ?_
  refine .mv ?_
  apply wpSq_end
  refine hK9 _ _ ?_
  refine wp_seq_k ?_
  intro K11 hK11
  refine rg [0, 1, 2, 3, 4, 5, 6] ?_
  refine sq ?_
  refine .mv ?_
  refine sq ?_
  refine .mv ?_
  refine sq ?_
  refine .r0 ?_
  refine sq ?_
  refine .mv ?_
  refine sq ?_
  refine .r0 ?_
  refine sq ?_
  refine .r0 ?_
  refine sq ?_
  refine .mv ?_
  apply wpSq_end
  refine hK11 _ _ ?_
  refine wp_ret ?_
  try dsimp only [Exit.then, Exit.inBlock]
  refine bodyPost_ret (v := (.string ((⟨#[]⟩ : ByteArray) ++ ⟨#[45]⟩ ++ T ++ ⟨#[105]⟩))) (by simp [results, Tryz.results18, go_sem]) rfl ?_
  have hb := hs.b
  exact ⟨rfl, hb⟩
set_option maxHeartbeats 4000000 in
set_option maxRecDepth 20000 in
theorem gText_zpo {S T : ByteArray} (ha : PN w va 0 l y m) (hl : l ≤ 10000000) (hm : m ≤ 10000000) (hy : 0 < y) (hA : bitsN y.natAbs ≤ 1) (hS : zts x = S) (hT : zts (y.natAbs : Int) = T) (hs : S.size ≤ 10 * l + 11) (ht : T.size ≤ 10 * m + 11) (htab : Lib.TabIs Tryz.prog w p10 .u64 Lib.pow10Tab) :
    Calls Tryz.prog 18 #[va] w fun e w' => e = .returned (.string ((⟨#[]⟩ : ByteArray) ++ ⟨#[]⟩ ++ ⟨#[]⟩ ++ ⟨#[105]⟩)) ∧ Below w.heap.size w w' := by
  have htabs := Lib.tabBelow_of_tabIs htab
  have HS := hide hS
  have HT := hide hT
  have HY := hide (show y.sign = 1 from Int.sign_eq_one_of_pos hy)
  obtain ⟨B, hB⟩ : ∃ B, bitsN y.natAbs = B := ⟨_, rfl⟩
  rw [hB] at hA
  have HB := hide hB
  clear hB hS hT hy
  obtain ⟨n_0a, o_0a, k_0a, c_0a, n_0b, o_0b, k_0b, c_0b, rfl, ha1, ha2⟩ := ha
  go_enter Tryz.func18, Tryz.ntmps18
  have hs := St.nil w
  refine wp_seq_k ?_
  intro K1 hK1
  refine rg [0, 1] ?_
  refine sq ?_
  refine .al hs ?_; clear hs; intro p_b1 w_1 hs n1 kb_b1
  refine sq ?_
  refine .mv ?_
  apply wpSq_end
  refine hK1 _ _ ?_
  refine wp_seq_k ?_
  intro K2 hK2
  refine wp_seq_k ?_
  intro K3 hK3
  refine rg [0, 1, 2, 3] ?_
  refine sq ?_
  refine .r0 ?_
  refine sq ?_
  refine .r4 hs.g0.f4 ?_
  refine sq ?_
  intro K hK
  have k0_1 := kb n1
  replace ha2 := ha2.k k0_1
  go_big_op
  go_fit (zsign_any ha2 (by omega) )
  rintro e w_2 ⟨rfl, hb_2⟩
  replace hs := hs.bl hb_2
  rw [HY.out]
  refine hK _ _ rfl trivial ?_
  clear hK K
  refine sq ?_
  refine .r0 ?_
  apply wpSq_end
  refine hK3 _ _ ?_
  refine cf ?_
  refine wp_skip ?_
  refine hK2 _ _ ?_
  refine wp_seq_k ?_
  intro K4 hK4
  refine rg [0, 1, 2] ?_
  refine sq ?_
  refine .mv ?_
  refine sq ?_
  refine .mv ?_
  refine sq ?_
  refine .mv ?_
  apply wpSq_end
  refine hK4 _ _ ?_
  refine wp_seq_k ?_
  intro K5 hK5
  refine wp_seq_k ?_
  intro K6 hK6
  refine rg [0, 1, 2, 3] ?_
  refine sq ?_
  refine .r0 ?_
  refine sq ?_
  refine .r4 hs.g0.f4 ?_
  refine sq ?_
  intro K hK
  have k0_2 := k0_1.b hb_2
  replace ha1 := ha1.k k0_2
  go_big_op
  go_fit (zsign_any ha1 (by omega) )
  rintro e w_3 ⟨rfl, hb_3⟩
  replace hs := hs.bl hb_3
  refine hK _ _ rfl trivial ?_
  clear hK K
  refine sq ?_
  refine .r0 ?_
  apply wpSq_end
  refine hK6 _ _ ?_
  refine cf ?_
  refine wp_skip ?_
  refine hK5 _ _ ?_
  refine wp_seq_k ?_
  intro K7 hK7
  refine wp_seq_k ?_
  intro K8 hK8
  refine rg [0, 1, 2, 3] ?_
  refine sq ?_
  refine .r0 ?_
  refine sq ?_
  refine .r4 hs.g0.f4 ?_
  refine sq ?_
  intro K hK
  have k1_3 := (kb hb_2).b hb_3
  replace ha2 := ha2.k k1_3
  go_big_op
  go_fit (zsign_any ha2 (by omega) )
  rintro e w_4 ⟨rfl, hb_4⟩
  replace hs := hs.bl hb_4
  rw [HY.out]
  refine hK _ _ rfl trivial ?_
  clear hK K
  refine sq ?_
  refine .r0 ?_
  apply wpSq_end
  refine hK8 _ _ ?_
  refine cf ?_
  refine wp_skip ?_
  refine hK7 _ _ ?_
  refine wp_seq_k ?_
  intro K9 hK9
  refine wp_seq_k ?_
  intro K10 hK10
  refine rg [0, 1, 2, 3] ?_
  refine sq ?_
  refine .r0 ?_
  refine sq ?_
  refine .r4 hs.g0.f4 ?_
  refine sq ?_
  intro K hK
  have k3_4 := kb hb_4
  replace ha2 := ha2.k k3_4
  go_big_op
  go_fit (zbits_any ha2 (by omega) )
  rintro e w_5 ⟨rfl, hb_5⟩
  replace hs := hs.bl hb_5
  rw [HB.out]
  refine hK _ _ rfl trivial ?_
  clear hK K
  refine sq ?_
  refine .r0 ?_
  apply wpSq_end
  refine hK10 _ _ ?_
  refine cf ?_
  refine wp_skip ?_
  refine hK9 _ _ ?_
  refine wp_seq_k ?_
  intro K11 hK11
  refine rg [0, 1, 2, 3, 4, 5, 6] ?_
  refine sq ?_
  refine .mv ?_
  refine sq ?_
  refine .mv ?_
  refine sq ?_
  refine .r0 ?_
  refine sq ?_
  refine .mv ?_
  refine sq ?_
  refine .r0 ?_
  refine sq ?_
  refine .r0 ?_
  refine sq ?_
  refine .mv ?_
  apply wpSq_end
  refine hK11 _ _ ?_
  refine wp_ret ?_
  try dsimp only [Exit.then, Exit.inBlock]
  refine bodyPost_ret (v := (.string ((⟨#[]⟩ : ByteArray) ++ ⟨#[]⟩ ++ ⟨#[]⟩ ++ ⟨#[105]⟩))) (by simp [results, Tryz.results18, go_sem]) rfl ?_
  have hb := hs.b
  exact ⟨rfl, hb⟩
set_option maxHeartbeats 4000000 in
set_option maxRecDepth 20000 in
theorem gText_zpb {S T : ByteArray} (ha : PN w va 0 l y m) (hl : l ≤ 10000000) (hm : m ≤ 10000000) (hy : 0 < y) (hA : 1 < bitsN y.natAbs) (hS : zts x = S) (hT : zts (y.natAbs : Int) = T) (hs : S.size ≤ 10 * l + 11) (ht : T.size ≤ 10 * m + 11) (htab : Lib.TabIs Tryz.prog w p10 .u64 Lib.pow10Tab) :
    Calls Tryz.prog 18 #[va] w fun e w' => e = .returned (.string ((⟨#[]⟩ : ByteArray) ++ ⟨#[]⟩ ++ T ++ ⟨#[105]⟩)) ∧ Below w.heap.size w w' := by
  have htabs := Lib.tabBelow_of_tabIs htab
  have HS := hide hS
  have HT := hide hT
  have HY := hide (show y.sign = 1 from Int.sign_eq_one_of_pos hy)
  obtain ⟨B, hB⟩ : ∃ B, bitsN y.natAbs = B := ⟨_, rfl⟩
  rw [hB] at hA
  have HB := hide hB
  clear hB hS hT hy
  obtain ⟨n_0a, o_0a, k_0a, c_0a, n_0b, o_0b, k_0b, c_0b, rfl, ha1, ha2⟩ := ha
  go_enter Tryz.func18, Tryz.ntmps18
  have hs := St.nil w
  refine wp_seq_k ?_
  intro K1 hK1
  refine rg [0, 1] ?_
  refine sq ?_
  refine .al hs ?_; clear hs; intro p_b1 w_1 hs n1 kb_b1
  refine sq ?_
  refine .mv ?_
  apply wpSq_end
  refine hK1 _ _ ?_
  refine wp_seq_k ?_
  intro K2 hK2
  refine wp_seq_k ?_
  intro K3 hK3
  refine rg [0, 1, 2, 3] ?_
  refine sq ?_
  refine .r0 ?_
  refine sq ?_
  refine .r4 hs.g0.f4 ?_
  refine sq ?_
  intro K hK
  have k0_1 := kb n1
  replace ha2 := ha2.k k0_1
  go_big_op
  go_fit (zsign_any ha2 (by omega) )
  rintro e w_2 ⟨rfl, hb_2⟩
  replace hs := hs.bl hb_2
  rw [HY.out]
  refine hK _ _ rfl trivial ?_
  clear hK K
  refine sq ?_
  refine .r0 ?_
  apply wpSq_end
  refine hK3 _ _ ?_
  refine cf ?_
  refine wp_skip ?_
  refine hK2 _ _ ?_
  refine wp_seq_k ?_
  intro K4 hK4
  refine rg [0, 1, 2] ?_
  refine sq ?_
  refine .mv ?_
  refine sq ?_
  refine .mv ?_
  refine sq ?_
  refine .mv ?_
  apply wpSq_end
  refine hK4 _ _ ?_
  refine wp_seq_k ?_
  intro K5 hK5
  refine wp_seq_k ?_
  intro K6 hK6
  refine rg [0, 1, 2, 3] ?_
  refine sq ?_
  refine .r0 ?_
  refine sq ?_
  refine .r4 hs.g0.f4 ?_
  refine sq ?_
  intro K hK
  have k0_2 := k0_1.b hb_2
  replace ha1 := ha1.k k0_2
  go_big_op
  go_fit (zsign_any ha1 (by omega) )
  rintro e w_3 ⟨rfl, hb_3⟩
  replace hs := hs.bl hb_3
  refine hK _ _ rfl trivial ?_
  clear hK K
  refine sq ?_
  refine .r0 ?_
  apply wpSq_end
  refine hK6 _ _ ?_
  refine cf ?_
  refine wp_skip ?_
  refine hK5 _ _ ?_
  refine wp_seq_k ?_
  intro K7 hK7
  refine wp_seq_k ?_
  intro K8 hK8
  refine rg [0, 1, 2, 3] ?_
  refine sq ?_
  refine .r0 ?_
  refine sq ?_
  refine .r4 hs.g0.f4 ?_
  refine sq ?_
  intro K hK
  have k1_3 := (kb hb_2).b hb_3
  replace ha2 := ha2.k k1_3
  go_big_op
  go_fit (zsign_any ha2 (by omega) )
  rintro e w_4 ⟨rfl, hb_4⟩
  replace hs := hs.bl hb_4
  rw [HY.out]
  refine hK _ _ rfl trivial ?_
  clear hK K
  refine sq ?_
  refine .r0 ?_
  apply wpSq_end
  refine hK8 _ _ ?_
  refine cf ?_
  refine wp_skip ?_
  refine hK7 _ _ ?_
  refine wp_seq_k ?_
  intro K9 hK9
  refine wp_seq_k ?_
  intro K10 hK10
  refine rg [0, 1, 2, 3] ?_
  refine sq ?_
  refine .r0 ?_
  refine sq ?_
  refine .r4 hs.g0.f4 ?_
  refine sq ?_
  intro K hK
  have k3_4 := kb hb_4
  replace ha2 := ha2.k k3_4
  go_big_op
  go_fit (zbits_any ha2 (by omega) )
  rintro e w_5 ⟨rfl, hb_5⟩
  replace hs := hs.bl hb_5
  rw [HB.out]
  refine hK _ _ rfl trivial ?_
  clear hK K
  refine sq ?_
  refine .r0 ?_
  apply wpSq_end
  refine hK10 _ _ ?_
  refine ct ?_
  refine rg [0, 1, 2, 3, 4] ?_
  refine sq ?_
  refine .r0 ?_
  refine sq ?_
  refine .r4 hs.g0.f4 ?_
  refine sq ?_
  intro K hK
  have k4_5 := kb hb_5
  replace ha2 := ha2.k k4_5
  go_big_op
  go_fit (zabs_any ha2 (by omega) )
  rintro e w_6 ⟨v_g, rfl, g, hb_6⟩
  replace hs := hs.bl hb_6
  replace g := g.rd
  obtain ⟨n_g, o_g, k_g, c_g, rfl⟩ := g.open2
  have Lg := hide (g.lenOf (zlen_abs (ha2.len)))
  refine hK _ _ rfl trivial ?_
  clear hK K
  refine sq ?_
  intro K hK
  have hb := hs.b
  go_big_op
  go_fit (ztext_s (g.zn Lg.out) (by omega) (htabs _ hb))
  rintro e w_7 ⟨rfl, hb_7⟩
  clear hb
  replace hs := hs.bl hb_7
  rw [HT.out]
  refine hK _ _ rfl trivial ?_
  clear hK K
  refine sq ?_
  refine .mv ?_
  apply wpSq_end
  refine hK9 _ _ ?_
  refine wp_seq_k ?_
  intro K11 hK11
  refine rg [0, 1, 2, 3, 4, 5, 6] ?_
  refine sq ?_
  refine .mv ?_
  refine sq ?_
  refine .mv ?_
  refine sq ?_
  refine .r0 ?_
  refine sq ?_
  refine .mv ?_
  refine sq ?_
  refine .r0 ?_
  refine sq ?_
  refine .r0 ?_
  refine sq ?_
  refine .mv ?_
  apply wpSq_end
  refine hK11 _ _ ?_
  refine wp_ret ?_
  try dsimp only [Exit.then, Exit.inBlock]
  refine bodyPost_ret (v := (.string ((⟨#[]⟩ : ByteArray) ++ ⟨#[]⟩ ++ T ++ ⟨#[105]⟩))) (by simp [results, Tryz.results18, go_sem]) rfl ?_
  have hb := hs.b
  exact ⟨rfl, hb⟩
set_option maxHeartbeats 4000000 in
set_option maxRecDepth 20000 in
theorem gText_nmo {S T : ByteArray} (ha : PN w va x l y m) (hl : l ≤ 10000000) (hm : m ≤ 10000000) (hx : x ≠ 0) (hy : y < 0) (hA : bitsN y.natAbs ≤ 1) (hS : zts x = S) (hT : zts (y.natAbs : Int) = T) (hs : S.size ≤ 10 * l + 11) (ht : T.size ≤ 10 * m + 11) (htab : Lib.TabIs Tryz.prog w p10 .u64 Lib.pow10Tab) :
    Calls Tryz.prog 18 #[va] w fun e w' => e = .returned (.string (S ++ ⟨#[45]⟩ ++ ⟨#[]⟩ ++ ⟨#[105]⟩)) ∧ Below w.heap.size w w' := by
  have htabs := Lib.tabBelow_of_tabIs htab
  have HS := hide hS
  have HT := hide hT
  have HY := hide (show y.sign = -1 from Int.sign_eq_neg_one_of_neg hy)
  have hx0 : (x.sign == 0) = false := by simpa using hx
  obtain ⟨G, hG⟩ : ∃ G, x.sign = G := ⟨_, rfl⟩
  rw [hG] at hx0
  have HG := hide hG
  clear hx hG
  obtain ⟨B, hB⟩ : ∃ B, bitsN y.natAbs = B := ⟨_, rfl⟩
  rw [hB] at hA
  have HB := hide hB
  clear hB hS hT hy
  obtain ⟨n_0a, o_0a, k_0a, c_0a, n_0b, o_0b, k_0b, c_0b, rfl, ha1, ha2⟩ := ha
  go_enter Tryz.func18, Tryz.ntmps18
  have hs := St.nil w
  refine wp_seq_k ?_
  intro K1 hK1
  refine rg [0, 1] ?_
  refine sq ?_
  refine .al hs ?_; clear hs; intro p_b1 w_1 hs n1 kb_b1
  refine sq ?_
  refine .mv ?_
  apply wpSq_end
  refine hK1 _ _ ?_
  refine wp_seq_k ?_
  intro K2 hK2
  refine wp_seq_k ?_
  intro K3 hK3
  refine rg [0, 1, 2, 3] ?_
  refine sq ?_
  refine .r0 ?_
  refine sq ?_
  refine .r4 hs.g0.f4 ?_
  refine sq ?_
  intro K hK
  have k0_1 := kb n1
  replace ha2 := ha2.k k0_1
  go_big_op
  go_fit (zsign_any ha2 (by omega) )
  rintro e w_2 ⟨rfl, hb_2⟩
  replace hs := hs.bl hb_2
  rw [HY.out]
  refine hK _ _ rfl trivial ?_
  clear hK K
  refine sq ?_
  refine .r0 ?_
  apply wpSq_end
  refine hK3 _ _ ?_
  refine cf ?_
  refine wp_skip ?_
  refine hK2 _ _ ?_
  refine wp_seq_k ?_
  intro K4 hK4
  refine rg [0, 1, 2] ?_
  refine sq ?_
  refine .mv ?_
  refine sq ?_
  refine .mv ?_
  refine sq ?_
  refine .mv ?_
  apply wpSq_end
  refine hK4 _ _ ?_
  refine wp_seq_k ?_
  intro K5 hK5
  refine wp_seq_k ?_
  intro K6 hK6
  refine rg [0, 1, 2, 3] ?_
  refine sq ?_
  refine .r0 ?_
  refine sq ?_
  refine .r4 hs.g0.f4 ?_
  refine sq ?_
  intro K hK
  have k0_2 := k0_1.b hb_2
  replace ha1 := ha1.k k0_2
  go_big_op
  go_fit (zsign_any ha1 (by omega) )
  rintro e w_3 ⟨rfl, hb_3⟩
  replace hs := hs.bl hb_3
  rw [HG.out]
  refine hK _ _ rfl trivial ?_
  clear hK K
  refine sq ?_
  refine .r0 ?_
  apply wpSq_end
  refine hK6 _ _ ?_
  refine wp_cond_true (congrArg Value.bool (show _ = true from (by simpa using hx0))) ?_
  refine rg [0, 1, 2, 3, 4] ?_
  refine sq ?_
  refine .r0 ?_
  refine sq ?_
  refine .r4 hs.g0.f4 ?_
  refine sq ?_
  intro K hK
  have k2_3 := kb hb_3
  replace ha1 := ha1.k k2_3
  have hb := hs.b
  go_big_op
  go_fit (ztext_s ha1 (by omega) (htabs _ hb))
  rintro e w_4 ⟨rfl, hb_4⟩
  clear hb
  replace hs := hs.bl hb_4
  rw [HS.out]
  refine hK _ _ rfl trivial ?_
  clear hK K
  refine sq ?_
  refine .mv ?_
  refine sq ?_
  refine .mv ?_
  apply wpSq_end
  refine hK5 _ _ ?_
  refine wp_seq_k ?_
  intro K7 hK7
  refine wp_seq_k ?_
  intro K8 hK8
  refine rg [0, 1, 2, 3] ?_
  refine sq ?_
  refine .r0 ?_
  refine sq ?_
  refine .r4 hs.g0.f4 ?_
  refine sq ?_
  intro K hK
  have k1_4 := ((kb hb_2).b hb_3).b hb_4
  replace ha2 := ha2.k k1_4
  go_big_op
  go_fit (zsign_any ha2 (by omega) )
  rintro e w_5 ⟨rfl, hb_5⟩
  replace hs := hs.bl hb_5
  rw [HY.out]
  refine hK _ _ rfl trivial ?_
  clear hK K
  refine sq ?_
  refine .r0 ?_
  apply wpSq_end
  refine hK8 _ _ ?_
  refine ct ?_
  refine rg [0] ?_
  refine sq ?_
  refine .mv ?_
  apply wpSq_end
  refine hK7 _ _ ?_
  refine wp_seq_k ?_
  intro K9 hK9
  refine wp_seq_k ?_
  intro K10 hK10
  refine rg [0, 1, 2, 3] ?_
  refine sq ?_
  refine .r0 ?_
  refine sq ?_
  refine .r4 hs.g0.f4 ?_
  refine sq ?_
  intro K hK
  have k4_5 := kb hb_5
  replace ha2 := ha2.k k4_5
  go_big_op
  go_fit (zbits_any ha2 (by omega) )
  rintro e w_6 ⟨rfl, hb_6⟩
  replace hs := hs.bl hb_6
  rw [HB.out]
  refine hK _ _ rfl trivial ?_
  clear hK K
  refine sq ?_
  refine .r0 ?_
  apply wpSq_end
  refine hK10 _ _ ?_
  refine cf ?_
  refine wp_skip ?_
  refine hK9 _ _ ?_
  refine wp_seq_k ?_
  intro K11 hK11
  refine rg [0, 1, 2, 3, 4, 5, 6] ?_
  refine sq ?_
  refine .mv ?_
  refine sq ?_
  refine .mv ?_
  refine sq ?_
  refine .r0 ?_
  refine sq ?_
  refine .mv ?_
  refine sq ?_
  refine .r0 ?_
  refine sq ?_
  refine .r0 ?_
  refine sq ?_
  refine .mv ?_
  apply wpSq_end
  refine hK11 _ _ ?_
  refine wp_ret ?_
  try dsimp only [Exit.then, Exit.inBlock]
  refine bodyPost_ret (v := (.string (S ++ ⟨#[45]⟩ ++ ⟨#[]⟩ ++ ⟨#[105]⟩))) (by simp [results, Tryz.results18, go_sem]) rfl ?_
  have hb := hs.b
  exact ⟨rfl, hb⟩
set_option maxHeartbeats 4000000 in
set_option maxRecDepth 20000 in
theorem gText_nmb {S T : ByteArray} (ha : PN w va x l y m) (hl : l ≤ 10000000) (hm : m ≤ 10000000) (hx : x ≠ 0) (hy : y < 0) (hA : 1 < bitsN y.natAbs) (hS : zts x = S) (hT : zts (y.natAbs : Int) = T) (hs : S.size ≤ 10 * l + 11) (ht : T.size ≤ 10 * m + 11) (htab : Lib.TabIs Tryz.prog w p10 .u64 Lib.pow10Tab) :
    Calls Tryz.prog 18 #[va] w fun e w' => e = .returned (.string (S ++ ⟨#[45]⟩ ++ T ++ ⟨#[105]⟩)) ∧ Below w.heap.size w w' := by
  have htabs := Lib.tabBelow_of_tabIs htab
  have HS := hide hS
  have HT := hide hT
  have HY := hide (show y.sign = -1 from Int.sign_eq_neg_one_of_neg hy)
  have hx0 : (x.sign == 0) = false := by simpa using hx
  obtain ⟨G, hG⟩ : ∃ G, x.sign = G := ⟨_, rfl⟩
  rw [hG] at hx0
  have HG := hide hG
  clear hx hG
  obtain ⟨B, hB⟩ : ∃ B, bitsN y.natAbs = B := ⟨_, rfl⟩
  rw [hB] at hA
  have HB := hide hB
  clear hB hS hT hy
  obtain ⟨n_0a, o_0a, k_0a, c_0a, n_0b, o_0b, k_0b, c_0b, rfl, ha1, ha2⟩ := ha
  go_enter Tryz.func18, Tryz.ntmps18
  have hs := St.nil w
  refine wp_seq_k ?_
  intro K1 hK1
  refine rg [0, 1] ?_
  refine sq ?_
  refine .al hs ?_; clear hs; intro p_b1 w_1 hs n1 kb_b1
  refine sq ?_
  refine .mv ?_
  apply wpSq_end
  refine hK1 _ _ ?_
  refine wp_seq_k ?_
  intro K2 hK2
  refine wp_seq_k ?_
  intro K3 hK3
  refine rg [0, 1, 2, 3] ?_
  refine sq ?_
  refine .r0 ?_
  refine sq ?_
  refine .r4 hs.g0.f4 ?_
  refine sq ?_
  intro K hK
  have k0_1 := kb n1
  replace ha2 := ha2.k k0_1
  go_big_op
  go_fit (zsign_any ha2 (by omega) )
  rintro e w_2 ⟨rfl, hb_2⟩
  replace hs := hs.bl hb_2
  rw [HY.out]
  refine hK _ _ rfl trivial ?_
  clear hK K
  refine sq ?_
  refine .r0 ?_
  apply wpSq_end
  refine hK3 _ _ ?_
  refine cf ?_
  refine wp_skip ?_
  refine hK2 _ _ ?_
  refine wp_seq_k ?_
  intro K4 hK4
  refine rg [0, 1, 2] ?_
  refine sq ?_
  refine .mv ?_
  refine sq ?_
  refine .mv ?_
  refine sq ?_
  refine .mv ?_
  apply wpSq_end
  refine hK4 _ _ ?_
  refine wp_seq_k ?_
  intro K5 hK5
  refine wp_seq_k ?_
  intro K6 hK6
  refine rg [0, 1, 2, 3] ?_
  refine sq ?_
  refine .r0 ?_
  refine sq ?_
  refine .r4 hs.g0.f4 ?_
  refine sq ?_
  intro K hK
  have k0_2 := k0_1.b hb_2
  replace ha1 := ha1.k k0_2
  go_big_op
  go_fit (zsign_any ha1 (by omega) )
  rintro e w_3 ⟨rfl, hb_3⟩
  replace hs := hs.bl hb_3
  rw [HG.out]
  refine hK _ _ rfl trivial ?_
  clear hK K
  refine sq ?_
  refine .r0 ?_
  apply wpSq_end
  refine hK6 _ _ ?_
  refine wp_cond_true (congrArg Value.bool (show _ = true from (by simpa using hx0))) ?_
  refine rg [0, 1, 2, 3, 4] ?_
  refine sq ?_
  refine .r0 ?_
  refine sq ?_
  refine .r4 hs.g0.f4 ?_
  refine sq ?_
  intro K hK
  have k2_3 := kb hb_3
  replace ha1 := ha1.k k2_3
  have hb := hs.b
  go_big_op
  go_fit (ztext_s ha1 (by omega) (htabs _ hb))
  rintro e w_4 ⟨rfl, hb_4⟩
  clear hb
  replace hs := hs.bl hb_4
  rw [HS.out]
  refine hK _ _ rfl trivial ?_
  clear hK K
  refine sq ?_
  refine .mv ?_
  refine sq ?_
  refine .mv ?_
  apply wpSq_end
  refine hK5 _ _ ?_
  refine wp_seq_k ?_
  intro K7 hK7
  refine wp_seq_k ?_
  intro K8 hK8
  refine rg [0, 1, 2, 3] ?_
  refine sq ?_
  refine .r0 ?_
  refine sq ?_
  refine .r4 hs.g0.f4 ?_
  refine sq ?_
  intro K hK
  have k1_4 := ((kb hb_2).b hb_3).b hb_4
  replace ha2 := ha2.k k1_4
  go_big_op
  go_fit (zsign_any ha2 (by omega) )
  rintro e w_5 ⟨rfl, hb_5⟩
  replace hs := hs.bl hb_5
  rw [HY.out]
  refine hK _ _ rfl trivial ?_
  clear hK K
  refine sq ?_
  refine .r0 ?_
  apply wpSq_end
  refine hK8 _ _ ?_
  refine ct ?_
  refine rg [0] ?_
  refine sq ?_
  refine .mv ?_
  apply wpSq_end
  refine hK7 _ _ ?_
  refine wp_seq_k ?_
  intro K9 hK9
  refine wp_seq_k ?_
  intro K10 hK10
  refine rg [0, 1, 2, 3] ?_
  refine sq ?_
  refine .r0 ?_
  refine sq ?_
  refine .r4 hs.g0.f4 ?_
  refine sq ?_
  intro K hK
  have k4_5 := kb hb_5
  replace ha2 := ha2.k k4_5
  go_big_op
  go_fit (zbits_any ha2 (by omega) )
  rintro e w_6 ⟨rfl, hb_6⟩
  replace hs := hs.bl hb_6
  rw [HB.out]
  refine hK _ _ rfl trivial ?_
  clear hK K
  refine sq ?_
  refine .r0 ?_
  apply wpSq_end
  refine hK10 _ _ ?_
  refine ct ?_
  refine rg [0, 1, 2, 3, 4] ?_
  refine sq ?_
  refine .r0 ?_
  refine sq ?_
  refine .r4 hs.g0.f4 ?_
  refine sq ?_
  intro K hK
  have k5_6 := kb hb_6
  replace ha2 := ha2.k k5_6
  go_big_op
  go_fit (zabs_any ha2 (by omega) )
  rintro e w_7 ⟨v_g, rfl, g, hb_7⟩
  replace hs := hs.bl hb_7
  replace g := g.rd
  obtain ⟨n_g, o_g, k_g, c_g, rfl⟩ := g.open2
  have Lg := hide (g.lenOf (zlen_abs (ha2.len)))
  refine hK _ _ rfl trivial ?_
  clear hK K
  refine sq ?_
  intro K hK
  have hb := hs.b
  go_big_op
  go_fit (ztext_s (g.zn Lg.out) (by omega) (htabs _ hb))
  rintro e w_8 ⟨rfl, hb_8⟩
  clear hb
  replace hs := hs.bl hb_8
  rw [HT.out]
  refine hK _ _ rfl trivial ?_
  clear hK K
  refine sq ?_
  refine .mv ?_
  apply wpSq_end
  refine hK9 _ _ ?_
  refine wp_seq_k ?_
  intro K11 hK11
  refine rg [0, 1, 2, 3, 4, 5, 6] ?_
  refine sq ?_
  refine .mv ?_
  refine sq ?_
  refine .mv ?_
  refine sq ?_
  refine .r0 ?_
  refine sq ?_
  refine .mv ?_
  refine sq ?_
  refine .r0 ?_
  refine sq ?_
  refine .r0 ?_
  refine sq ?_
  refine .mv ?_
  apply wpSq_end
  refine hK11 _ _ ?_
  refine wp_ret ?_
  try dsimp only [Exit.then, Exit.inBlock]
  refine bodyPost_ret (v := (.string (S ++ ⟨#[45]⟩ ++ T ++ ⟨#[105]⟩))) (by simp [results, Tryz.results18, go_sem]) rfl ?_
  have hb := hs.b
  exact ⟨rfl, hb⟩
set_option maxHeartbeats 4000000 in
set_option maxRecDepth 20000 in
theorem gText_npo {S T : ByteArray} (ha : PN w va x l y m) (hl : l ≤ 10000000) (hm : m ≤ 10000000) (hx : x ≠ 0) (hy : 0 < y) (hA : bitsN y.natAbs ≤ 1) (hS : zts x = S) (hT : zts (y.natAbs : Int) = T) (hs : S.size ≤ 10 * l + 11) (ht : T.size ≤ 10 * m + 11) (htab : Lib.TabIs Tryz.prog w p10 .u64 Lib.pow10Tab) :
    Calls Tryz.prog 18 #[va] w fun e w' => e = .returned (.string (S ++ ⟨#[43]⟩ ++ ⟨#[]⟩ ++ ⟨#[105]⟩)) ∧ Below w.heap.size w w' := by
  have htabs := Lib.tabBelow_of_tabIs htab
  have HS := hide hS
  have HT := hide hT
  have HY := hide (show y.sign = 1 from Int.sign_eq_one_of_pos hy)
  have hx0 : (x.sign == 0) = false := by simpa using hx
  obtain ⟨G, hG⟩ : ∃ G, x.sign = G := ⟨_, rfl⟩
  rw [hG] at hx0
  have HG := hide hG
  clear hx hG
  obtain ⟨B, hB⟩ : ∃ B, bitsN y.natAbs = B := ⟨_, rfl⟩
  rw [hB] at hA
  have HB := hide hB
  clear hB hS hT hy
  obtain ⟨n_0a, o_0a, k_0a, c_0a, n_0b, o_0b, k_0b, c_0b, rfl, ha1, ha2⟩ := ha
  go_enter Tryz.func18, Tryz.ntmps18
  have hs := St.nil w
  refine wp_seq_k ?_
  intro K1 hK1
  refine rg [0, 1] ?_
  refine sq ?_
  refine .al hs ?_; clear hs; intro p_b1 w_1 hs n1 kb_b1
  refine sq ?_
  refine .mv ?_
  apply wpSq_end
  refine hK1 _ _ ?_
  refine wp_seq_k ?_
  intro K2 hK2
  refine wp_seq_k ?_
  intro K3 hK3
  refine rg [0, 1, 2, 3] ?_
  refine sq ?_
  refine .r0 ?_
  refine sq ?_
  refine .r4 hs.g0.f4 ?_
  refine sq ?_
  intro K hK
  have k0_1 := kb n1
  replace ha2 := ha2.k k0_1
  go_big_op
  go_fit (zsign_any ha2 (by omega) )
  rintro e w_2 ⟨rfl, hb_2⟩
  replace hs := hs.bl hb_2
  rw [HY.out]
  refine hK _ _ rfl trivial ?_
  clear hK K
  refine sq ?_
  refine .r0 ?_
  apply wpSq_end
  refine hK3 _ _ ?_
  refine cf ?_
  refine wp_skip ?_
  refine hK2 _ _ ?_
  refine wp_seq_k ?_
  intro K4 hK4
  refine rg [0, 1, 2] ?_
  refine sq ?_
  refine .mv ?_
  refine sq ?_
  refine .mv ?_
  refine sq ?_
  refine .mv ?_
  apply wpSq_end
  refine hK4 _ _ ?_
  refine wp_seq_k ?_
  intro K5 hK5
  refine wp_seq_k ?_
  intro K6 hK6
  refine rg [0, 1, 2, 3] ?_
  refine sq ?_
  refine .r0 ?_
  refine sq ?_
  refine .r4 hs.g0.f4 ?_
  refine sq ?_
  intro K hK
  have k0_2 := k0_1.b hb_2
  replace ha1 := ha1.k k0_2
  go_big_op
  go_fit (zsign_any ha1 (by omega) )
  rintro e w_3 ⟨rfl, hb_3⟩
  replace hs := hs.bl hb_3
  rw [HG.out]
  refine hK _ _ rfl trivial ?_
  clear hK K
  refine sq ?_
  refine .r0 ?_
  apply wpSq_end
  refine hK6 _ _ ?_
  refine wp_cond_true (congrArg Value.bool (show _ = true from (by simpa using hx0))) ?_
  refine rg [0, 1, 2, 3, 4] ?_
  refine sq ?_
  refine .r0 ?_
  refine sq ?_
  refine .r4 hs.g0.f4 ?_
  refine sq ?_
  intro K hK
  have k2_3 := kb hb_3
  replace ha1 := ha1.k k2_3
  have hb := hs.b
  go_big_op
  go_fit (ztext_s ha1 (by omega) (htabs _ hb))
  rintro e w_4 ⟨rfl, hb_4⟩
  clear hb
  replace hs := hs.bl hb_4
  rw [HS.out]
  refine hK _ _ rfl trivial ?_
  clear hK K
  refine sq ?_
  refine .mv ?_
  refine sq ?_
  refine .mv ?_
  apply wpSq_end
  refine hK5 _ _ ?_
  refine wp_seq_k ?_
  intro K7 hK7
  refine wp_seq_k ?_
  intro K8 hK8
  refine rg [0, 1, 2, 3] ?_
  refine sq ?_
  refine .r0 ?_
  refine sq ?_
  refine .r4 hs.g0.f4 ?_
  refine sq ?_
  intro K hK
  have k1_4 := ((kb hb_2).b hb_3).b hb_4
  replace ha2 := ha2.k k1_4
  go_big_op
  go_fit (zsign_any ha2 (by omega) )
  rintro e w_5 ⟨rfl, hb_5⟩
  replace hs := hs.bl hb_5
  rw [HY.out]
  refine hK _ _ rfl trivial ?_
  clear hK K
  refine sq ?_
  refine .r0 ?_
  apply wpSq_end
  refine hK8 _ _ ?_
  refine cf ?_
  refine wp_skip ?_
  refine hK7 _ _ ?_
  refine wp_seq_k ?_
  intro K9 hK9
  refine wp_seq_k ?_
  intro K10 hK10
  refine rg [0, 1, 2, 3] ?_
  refine sq ?_
  refine .r0 ?_
  refine sq ?_
  refine .r4 hs.g0.f4 ?_
  refine sq ?_
  intro K hK
  have k4_5 := kb hb_5
  replace ha2 := ha2.k k4_5
  go_big_op
  go_fit (zbits_any ha2 (by omega) )
  rintro e w_6 ⟨rfl, hb_6⟩
  replace hs := hs.bl hb_6
  rw [HB.out]
  refine hK _ _ rfl trivial ?_
  clear hK K
  refine sq ?_
  refine .r0 ?_
  apply wpSq_end
  refine hK10 _ _ ?_
  refine cf ?_
  refine wp_skip ?_
  refine hK9 _ _ ?_
  refine wp_seq_k ?_
  intro K11 hK11
  refine rg [0, 1, 2, 3, 4, 5, 6] ?_
  refine sq ?_
  refine .mv ?_
  refine sq ?_
  refine .mv ?_
  refine sq ?_
  refine .r0 ?_
  refine sq ?_
  refine .mv ?_
  refine sq ?_
  refine .r0 ?_
  refine sq ?_
  refine .r0 ?_
  refine sq ?_
  refine .mv ?_
  apply wpSq_end
  refine hK11 _ _ ?_
  refine wp_ret ?_
  try dsimp only [Exit.then, Exit.inBlock]
  refine bodyPost_ret (v := (.string (S ++ ⟨#[43]⟩ ++ ⟨#[]⟩ ++ ⟨#[105]⟩))) (by simp [results, Tryz.results18, go_sem]) rfl ?_
  have hb := hs.b
  exact ⟨rfl, hb⟩
set_option maxHeartbeats 4000000 in
set_option maxRecDepth 20000 in
theorem gText_npb {S T : ByteArray} (ha : PN w va x l y m) (hl : l ≤ 10000000) (hm : m ≤ 10000000) (hx : x ≠ 0) (hy : 0 < y) (hA : 1 < bitsN y.natAbs) (hS : zts x = S) (hT : zts (y.natAbs : Int) = T) (hs : S.size ≤ 10 * l + 11) (ht : T.size ≤ 10 * m + 11) (htab : Lib.TabIs Tryz.prog w p10 .u64 Lib.pow10Tab) :
    Calls Tryz.prog 18 #[va] w fun e w' => e = .returned (.string (S ++ ⟨#[43]⟩ ++ T ++ ⟨#[105]⟩)) ∧ Below w.heap.size w w' := by
  have htabs := Lib.tabBelow_of_tabIs htab
  have HS := hide hS
  have HT := hide hT
  have HY := hide (show y.sign = 1 from Int.sign_eq_one_of_pos hy)
  have hx0 : (x.sign == 0) = false := by simpa using hx
  obtain ⟨G, hG⟩ : ∃ G, x.sign = G := ⟨_, rfl⟩
  rw [hG] at hx0
  have HG := hide hG
  clear hx hG
  obtain ⟨B, hB⟩ : ∃ B, bitsN y.natAbs = B := ⟨_, rfl⟩
  rw [hB] at hA
  have HB := hide hB
  clear hB hS hT hy
  obtain ⟨n_0a, o_0a, k_0a, c_0a, n_0b, o_0b, k_0b, c_0b, rfl, ha1, ha2⟩ := ha
  go_enter Tryz.func18, Tryz.ntmps18
  have hs := St.nil w
  refine wp_seq_k ?_
  intro K1 hK1
  refine rg [0, 1] ?_
  refine sq ?_
  refine .al hs ?_; clear hs; intro p_b1 w_1 hs n1 kb_b1
  refine sq ?_
  refine .mv ?_
  apply wpSq_end
  refine hK1 _ _ ?_
  refine wp_seq_k ?_
  intro K2 hK2
  refine wp_seq_k ?_
  intro K3 hK3
  refine rg [0, 1, 2, 3] ?_
  refine sq ?_
  refine .r0 ?_
  refine sq ?_
  refine .r4 hs.g0.f4 ?_
  refine sq ?_
  intro K hK
  have k0_1 := kb n1
  replace ha2 := ha2.k k0_1
  go_big_op
  go_fit (zsign_any ha2 (by omega) )
  rintro e w_2 ⟨rfl, hb_2⟩
  replace hs := hs.bl hb_2
  rw [HY.out]
  refine hK _ _ rfl trivial ?_
  clear hK K
  refine sq ?_
  refine .r0 ?_
  apply wpSq_end
  refine hK3 _ _ ?_
  refine cf ?_
  refine wp_skip ?_
  refine hK2 _ _ ?_
  refine wp_seq_k ?_
  intro K4 hK4
  refine rg [0, 1, 2] ?_
  refine sq ?_
  refine .mv ?_
  refine sq ?_
  refine .mv ?_
  refine sq ?_
  refine .mv ?_
  apply wpSq_end
  refine hK4 _ _ ?_
  refine wp_seq_k ?_
  intro K5 hK5
  refine wp_seq_k ?_
  intro K6 hK6
  refine rg [0, 1, 2, 3] ?_
  refine sq ?_
  refine .r0 ?_
  refine sq ?_
  refine .r4 hs.g0.f4 ?_
  refine sq ?_
  intro K hK
  have k0_2 := k0_1.b hb_2
  replace ha1 := ha1.k k0_2
  go_big_op
  go_fit (zsign_any ha1 (by omega) )
  rintro e w_3 ⟨rfl, hb_3⟩
  replace hs := hs.bl hb_3
  rw [HG.out]
  refine hK _ _ rfl trivial ?_
  clear hK K
  refine sq ?_
  refine .r0 ?_
  apply wpSq_end
  refine hK6 _ _ ?_
  refine wp_cond_true (congrArg Value.bool (show _ = true from (by simpa using hx0))) ?_
  refine rg [0, 1, 2, 3, 4] ?_
  refine sq ?_
  refine .r0 ?_
  refine sq ?_
  refine .r4 hs.g0.f4 ?_
  refine sq ?_
  intro K hK
  have k2_3 := kb hb_3
  replace ha1 := ha1.k k2_3
  have hb := hs.b
  go_big_op
  go_fit (ztext_s ha1 (by omega) (htabs _ hb))
  rintro e w_4 ⟨rfl, hb_4⟩
  clear hb
  replace hs := hs.bl hb_4
  rw [HS.out]
  refine hK _ _ rfl trivial ?_
  clear hK K
  refine sq ?_
  refine .mv ?_
  refine sq ?_
  refine .mv ?_
  apply wpSq_end
  refine hK5 _ _ ?_
  refine wp_seq_k ?_
  intro K7 hK7
  refine wp_seq_k ?_
  intro K8 hK8
  refine rg [0, 1, 2, 3] ?_
  refine sq ?_
  refine .r0 ?_
  refine sq ?_
  refine .r4 hs.g0.f4 ?_
  refine sq ?_
  intro K hK
  have k1_4 := ((kb hb_2).b hb_3).b hb_4
  replace ha2 := ha2.k k1_4
  go_big_op
  go_fit (zsign_any ha2 (by omega) )
  rintro e w_5 ⟨rfl, hb_5⟩
  replace hs := hs.bl hb_5
  rw [HY.out]
  refine hK _ _ rfl trivial ?_
  clear hK K
  refine sq ?_
  refine .r0 ?_
  apply wpSq_end
  refine hK8 _ _ ?_
  refine cf ?_
  refine wp_skip ?_
  refine hK7 _ _ ?_
  refine wp_seq_k ?_
  intro K9 hK9
  refine wp_seq_k ?_
  intro K10 hK10
  refine rg [0, 1, 2, 3] ?_
  refine sq ?_
  refine .r0 ?_
  refine sq ?_
  refine .r4 hs.g0.f4 ?_
  refine sq ?_
  intro K hK
  have k4_5 := kb hb_5
  replace ha2 := ha2.k k4_5
  go_big_op
  go_fit (zbits_any ha2 (by omega) )
  rintro e w_6 ⟨rfl, hb_6⟩
  replace hs := hs.bl hb_6
  rw [HB.out]
  refine hK _ _ rfl trivial ?_
  clear hK K
  refine sq ?_
  refine .r0 ?_
  apply wpSq_end
  refine hK10 _ _ ?_
  refine ct ?_
  refine rg [0, 1, 2, 3, 4] ?_
  refine sq ?_
  refine .r0 ?_
  refine sq ?_
  refine .r4 hs.g0.f4 ?_
  refine sq ?_
  intro K hK
  have k5_6 := kb hb_6
  replace ha2 := ha2.k k5_6
  go_big_op
  go_fit (zabs_any ha2 (by omega) )
  rintro e w_7 ⟨v_g, rfl, g, hb_7⟩
  replace hs := hs.bl hb_7
  replace g := g.rd
  obtain ⟨n_g, o_g, k_g, c_g, rfl⟩ := g.open2
  have Lg := hide (g.lenOf (zlen_abs (ha2.len)))
  refine hK _ _ rfl trivial ?_
  clear hK K
  refine sq ?_
  intro K hK
  have hb := hs.b
  go_big_op
  go_fit (ztext_s (g.zn Lg.out) (by omega) (htabs _ hb))
  rintro e w_8 ⟨rfl, hb_8⟩
  clear hb
  replace hs := hs.bl hb_8
  rw [HT.out]
  refine hK _ _ rfl trivial ?_
  clear hK K
  refine sq ?_
  refine .mv ?_
  apply wpSq_end
  refine hK9 _ _ ?_
  refine wp_seq_k ?_
  intro K11 hK11
  refine rg [0, 1, 2, 3, 4, 5, 6] ?_
  refine sq ?_
  refine .mv ?_
  refine sq ?_
  refine .mv ?_
  refine sq ?_
  refine .r0 ?_
  refine sq ?_
  refine .mv ?_
  refine sq ?_
  refine .r0 ?_
  refine sq ?_
  refine .r0 ?_
  refine sq ?_
  refine .mv ?_
  apply wpSq_end
  refine hK11 _ _ ?_
  refine wp_ret ?_
  try dsimp only [Exit.then, Exit.inBlock]
  refine bodyPost_ret (v := (.string (S ++ ⟨#[43]⟩ ++ T ++ ⟨#[105]⟩))) (by simp [results, Tryz.results18, go_sem]) rfl ?_
  have hb := hs.b
  exact ⟨rfl, hb⟩
theorem gText_any (ha : PN w va x l y m) (hl : l ≤ 10000000) (hm : m ≤ 10000000) (htab : Lib.TabIs Tryz.prog w p10 .u64 Lib.pow10Tab) :
    Calls Tryz.prog 18 #[va] w fun e w' => e = .returned (.string (gts x y)) ∧ Below w.heap.size w w' := by
  by_cases h0 : y = 0
  · unfold gts; rw [if_pos h0]; subst h0; exact gText_re ha hl hm htab
  have hs := zts_size ha.len1
  have ht := zts_size (show (dig (y.natAbs : Int).natAbs).length ≤ m from zlen_abs ha.len2)
  unfold gts gRe gSg gAm
  rw [if_neg h0]
  by_cases hx : x = 0 <;> by_cases hy : y < 0 <;> by_cases hb : 1 < bitsN y.natAbs
  · rw [if_pos hx, if_pos hy, if_pos hb]; rw [hx] at ha; exact gText_zmb ha hl hm hy hb rfl rfl hs ht htab
  · rw [if_pos hx, if_pos hy, if_neg hb]; rw [hx] at ha; exact gText_zmo ha hl hm hy (by omega) rfl rfl hs ht htab
  · rw [if_pos hx, if_neg hy, if_pos hx, if_pos hb]; rw [hx] at ha; exact gText_zpb ha hl hm (by omega) hb rfl rfl hs ht htab
  · rw [if_pos hx, if_neg hy, if_pos hx, if_neg hb]; rw [hx] at ha; exact gText_zpo ha hl hm (by omega) (by omega) rfl rfl hs ht htab
  · rw [if_neg hx, if_pos hy, if_pos hb]; exact gText_nmb ha hl hm hx hy hb rfl rfl hs ht htab
  · rw [if_neg hx, if_pos hy, if_neg hb]; exact gText_nmo ha hl hm hx hy (by omega) rfl rfl hs ht htab
  · rw [if_neg hx, if_neg hy, if_neg hx, if_pos hb]; exact gText_npb ha hl hm hx (by omega) hb rfl rfl hs ht htab
  · rw [if_neg hx, if_neg hy, if_neg hx, if_neg hb]; exact gText_npo ha hl hm hx (by omega) (by omega) rfl rfl hs ht htab
theorem gts_55 : gts 5 5 = ⟨#[53, 43, 53, 105]⟩ := by
  have h5 : zts 5 = ⟨#[53]⟩ := by unfold zts ztx; rw [if_neg (by decide), show Int.natAbs 5 = 5 from rfl, dec1 5 (by decide)]; rfl
  unfold gts gRe gSg gAm
  rw [if_neg (by decide), if_neg (by decide), if_neg (by decide), if_neg (by decide), if_pos (by decide), show ((Int.natAbs 5 : Nat) : Int) = 5 from rfl, h5]
  rfl
set_option maxHeartbeats 4000000 in
set_option maxRecDepth 20000 in
theorem gawake_any (w : World) (htab : Lib.TabIs Tryz.prog w p10 .u64 Lib.pow10Tab) :
    Calls Tryz.prog 5 #[] w fun e w' => e = .returned (.bool true) ∧ Below w.heap.size w w' := by
  have htabs := Lib.tabBelow_of_tabIs htab
  have L := fun (n : Int) (h : n.natAbs ≤ 100) => zlen_i n (by omega) (by omega)
  have L1 := hide (L 1 (by decide))
  have L2 := hide (L 2 (by decide))
  have L3 := hide (L 3 (by decide))
  have L4 := hide (L (-1) (by decide))
  have L5 := hide (L 5 (by decide))
  have L6 := hide (L (-3) (by decide))
  have E1 := hide (show (1 : Int) * 3 - 2 * -1 = 5 ∧ (1 : Int) * -1 + 2 * 3 = 5 by decide)
  have E2 := hide gts_55
  clear L
  go_enter Tryz.func5, Tryz.ntmps5
  have hs := St.nil w
  refine wp_seq_k ?_
  intro K1 hK1
  refine rg [0] ?_
  refine sq ?_
  refine .mv ?_
  apply wpSq_end
  refine hK1 _ _ ?_
  refine wp_seq_k ?_
  intro K2 hK2
  refine rg [0, 1, 2, 3, 4] ?_
  refine sq ?_
  intro K hK
  go_big_op
  go_fit (gg_any 1 2 _ (by decide) (by decide) (by decide) (by decide))
  rintro e w_1 ⟨_, rfl, ⟨n_aa, o_aa, k_aa, c_aa, n_ab, o_ab, k_ab, c_ab, rfl, a1, a2⟩, hb_1⟩
  replace hs := hs.bl hb_1
  have La1 := hide (a1.lenOf (L1.out))
  have La2 := hide (a2.lenOf (L2.out))
  refine hK _ _ rfl trivial ?_
  clear hK K
  refine sq ?_
  intro K hK
  go_big_op
  go_fit (gg_any 3 (-1) _ (by decide) (by decide) (by decide) (by decide))
  rintro e w_2 ⟨_, rfl, ⟨n_ba, o_ba, k_ba, c_ba, n_bb, o_bb, k_bb, c_bb, rfl, b1, b2⟩, hb_2⟩
  replace hs := hs.bl hb_2
  have Lb1 := hide (b1.lenOf (L3.out))
  have Lb2 := hide (b2.lenOf (L4.out))
  refine hK _ _ rfl trivial ?_
  clear hK K
  refine sq ?_
  intro K hK
  have k1_2 := kb hb_2
  replace a1 := a1.k k1_2
  replace a2 := a2.k k1_2
  go_big_op
  go_fit (gMul_any (PN.mk' (a1.zn La1.out) (a2.zn La2.out)) (PN.mk' (b1.zn Lb1.out) (b2.zn Lb2.out)) (by omega) (by omega) (by omega) (by omega) )
  rintro e w_3 ⟨_, rfl, ⟨n_ca, o_ca, k_ca, c_ca, n_cb, o_cb, k_cb, c_cb, rfl, c1, c2⟩, hb_3⟩
  replace hs := hs.bl hb_3
  have Lc1 := hide (c1.lenOf (zlen_sub (zlen_mul (La1.out) (Lb1.out)) (zlen_mul (La2.out) (Lb2.out))))
  have Lc2 := hide (c2.lenOf (zlen_add (zlen_mul (La1.out) (Lb2.out)) (zlen_mul (La2.out) (Lb1.out))))
  rw [E1.out.1] at c1
  rw [E1.out.2] at c2
  refine hK _ _ rfl trivial ?_
  clear hK K
  refine sq ?_
  refine .al hs ?_; clear hs; intro p_b1 w_4 hs n4 kb_b1
  refine sq ?_
  refine .s4 hs.g0 (fun _ => hs.u0 kb_b1) ?_; clear hs; intro w_5 hs hd5 ho5
  apply wpSq_end
  refine hK2 _ _ ?_
  refine wp_seq_k ?_
  intro K3 hK3
  refine wp_region_f4 [(0, false), (1, true), (2, true), (3, false), (4, false), (5, true), (6, false), (7, false), (8, false), (9, true), (10, true), (11, true), (12, false), (13, false)] [] [] (fun _ => default) [0, 99, 99, 99, 0, 99, 99, 99, 99, 99, 99, 99, 99, 99] [] (.c hs.g0 .n) fn fun w_6 n6 => ?_
  replace hs := hs.bl n6
  refine f4 ?_
  have Lc1 := hide (c1.lenOf (L5.out))
  have Lc2 := hide (c2.lenOf (L5.out))
  refine fl fun w_7 n7 => ?_
  replace hs := hs.bl n7
  intro K hK
  go_big_op
  go_fit (gg_any 5 5 _ (by decide) (by decide) (by decide) (by decide))
  rintro e w_8 ⟨_, rfl, ⟨n_da, o_da, k_da, c_da, n_db, o_db, k_db, c_db, rfl, d1, d2⟩, hb_8⟩
  replace hs := hs.bl hb_8
  have Ld1 := hide (d1.lenOf (L5.out))
  have Ld2 := hide (d2.lenOf (L5.out))
  refine hK _ _ rfl ⟨hb_8, (And.intro hs.g0 trivial)⟩ ?_
  clear hK K
  refine fl fun w_9 n9 => ?_
  replace hs := hs.bl n9
  intro K hK
  have k3_9 := (((((kb n4).o hd5 ho5).b n6).b n7).b hb_8).b n9
  replace c1 := c1.k k3_9
  replace c2 := c2.k k3_9
  have k8_9 := kb n9
  replace d1 := d1.k k8_9
  replace d2 := d2.k k8_9
  go_big_op
  go_fit (gis_any (PC.mk' c1 c2) (PN.mk' (d1.zn Ld1.out) (d2.zn Ld2.out)) (by omega) (by omega) )
  rintro e w_10 ⟨rfl, hb_10⟩
  replace hs := hs.bl hb_10
  refine hK _ _ rfl ⟨hb_10, (And.intro hs.g0 trivial)⟩ ?_
  clear hK K
  refine fmv ?_
  refine f4 ?_
  refine fl fun w_11 n11 => ?_
  clear a1 a2 b1 b2 d1 d2
  replace hs := hs.bl n11
  intro K hK
  have k9_11 := (kb hb_10).b n11
  replace c1 := c1.k k9_11
  replace c2 := c2.k k9_11
  have hb := hs.b
  go_big_op
  go_fit (gText_any (.mk' (c1.zn L5.out) (c2.zn L5.out)) (by decide) (by decide) (htabs _ hb))
  rintro e w_12 ⟨rfl, hb_12⟩
  clear hb
  replace hs := hs.bl hb_12
  rw [E2.out]
  refine hK _ _ rfl ⟨hb_12, (And.intro hs.g0 trivial)⟩ ?_
  clear hK K
  refine f0 ?_
  refine f0 ?_
  refine fmv ?_
  refine fl fun w_13 n13 => ?_
  replace hs := hs.bl n13
  intro K hK
  go_big_op
  go_fit (gFrom_any 2 (-3) _ (by decide) (by decide) (by decide) (by decide))
  rintro e w_14 ⟨_, rfl, ⟨n_fa, o_fa, k_fa, c_fa, n_fb, o_fb, k_fb, c_fb, rfl, f1, f2⟩, hb_14⟩
  replace hs := hs.bl hb_14
  have Lf1 := hide (f1.lenOf (L2.out))
  have Lf2 := hide (f2.lenOf (L6.out))
  refine hK _ _ rfl ⟨hb_14, (And.intro hs.g0 trivial)⟩ ?_
  clear hK K
  refine fl fun w_15 n15 => ?_
  replace hs := hs.bl n15
  intro K hK
  go_big_op
  go_fit (gg_any 2 (-3) _ (by decide) (by decide) (by decide) (by decide))
  rintro e w_16 ⟨_, rfl, ⟨n_ga, o_ga, k_ga, c_ga, n_gb, o_gb, k_gb, c_gb, rfl, g1, g2⟩, hb_16⟩
  replace hs := hs.bl hb_16
  have Lg1 := hide (g1.lenOf (L2.out))
  have Lg2 := hide (g2.lenOf (L6.out))
  refine hK _ _ rfl ⟨hb_16, (And.intro hs.g0 trivial)⟩ ?_
  clear hK K
  refine fl fun w_17 n17 => ?_
  replace hs := hs.bl n17
  intro K hK
  have k14_17 := ((kb n15).b hb_16).b n17
  replace f1 := f1.k k14_17
  replace f2 := f2.k k14_17
  have k16_17 := kb n17
  replace g1 := g1.k k16_17
  replace g2 := g2.k k16_17
  go_big_op
  go_fit (gis_any (PC.mk' f1 f2) (PN.mk' (g1.zn Lg1.out) (g2.zn Lg2.out)) (by omega) (by omega) )
  rintro e w_18 ⟨rfl, hb_18⟩
  replace hs := hs.bl hb_18
  refine hK _ _ rfl ⟨hb_18, (And.intro hs.g0 trivial)⟩ ?_
  clear hK K
  refine f0 ?_
  refine fmv ?_
  refine e0 hs ?_; clear hs; intro w_19 hs n19
  apply wpTail_end
  refine hK3 _ _ ?_
  refine wp_ret ?_
  try dsimp only [Exit.then, Exit.inBlock]
  refine bodyPost_ret (v := (.bool true)) (by simp [results, Tryz.results5, go_sem]) rfl ?_
  have hb := hs.b
  exact ⟨rfl, hb⟩
end
/-- As Q; by a goto to a label of the scope's body: what stands behind the label, walked with one jump less. -/
def scopeQ (P : Program) (c : Code) (Q : Exit → Act → World → Prop) : Nat → Exit → Act → World → Prop
  | 0, .goto _, _, _ => False
  | n + 1, .goto l, a, w => ∃ rest, findLabel c l = some rest ∧ rest.wp P (scopeQ P c Q n) a w
  | _, e, a, w => Q e a w
theorem scopeQ_goto {P : Program} {c rest : Code} {Q : Exit → Act → World → Prop} {n l : Nat} {a : Act} {w : World} (hf : findLabel c l = some rest) (h : rest.wp P (scopeQ P c Q n) a w) : scopeQ P c Q (n + 1) (.goto l) a w := ⟨rest, hf, h⟩
theorem scopeQ_normal {P : Program} {c : Code} {Q : Exit → Act → World → Prop} {n : Nat} {a : Act} {w : World} (h : Q .normal a w) : scopeQ P c Q n .normal a w := by cases n <;> exact h
theorem scopeQ_ret {P : Program} {c : Code} {Q : Exit → Act → World → Prop} {n : Nat} {a : Act} {w : World} (h : Q .ret a w) : scopeQ P c Q n .ret a w := by cases n <;> exact h
theorem wp_scope_fwd {P : Program} {a : Act} {w : World} {Q : Exit → Act → World → Prop} {c : Code} (n : Nat) (first : c.wp P (scopeQ P c Q n) a w) : (Code.scope c).wp P Q a w := by
  intro b k cs
  have key : ∀ (n : Nat) (d : Code) (a : Act) (w : World), d.wp P (scopeQ P c Q n) a w → ∃ e a' w', Q e a' w' ∧ Arrives P (lone (b.at a (.code d :: .inScope c :: k)) cs w) b k cs e a' w' := by
    intro n
    induction n with
    | zero =>
      intro d a w h
      obtain ⟨e, a₁, w₁, hq, harr⟩ := h b (.inScope c :: k) cs
      cases e with
      | normal => exact ⟨.normal, a₁, w₁, hq, Steps.trans harr (.one step_inScope)⟩
      | exit id => exact ⟨.exit id, a₁, w₁, hq, fun k' hk => harr k' (by simp [exitTo, hk])⟩
      | goto l' => exact hq.elim
      | ret => exact ⟨_, a₁, w₁, hq, harr⟩
      | panic ch => exact ⟨_, a₁, w₁, hq, harr⟩
      | outgrown => exact ⟨_, a₁, w₁, hq, harr⟩
    | succ n ih =>
      intro d a w h
      obtain ⟨e, a₁, w₁, hq, harr⟩ := h b (.inScope c :: k) cs
      cases e with
      | normal => exact ⟨.normal, a₁, w₁, hq, Steps.trans harr (.one step_inScope)⟩
      | exit id => exact ⟨.exit id, a₁, w₁, hq, fun k' hk => harr k' (by simp [exitTo, hk])⟩
      | goto l' =>
        obtain ⟨rest, hf, hr⟩ := hq
        have hg : gotoIn l' (.inScope c :: k) = some (.code rest :: .inScope c :: k) := by simp [gotoIn, hf]
        obtain ⟨e₂, a₂, w₂, hq₂, harr₂⟩ := ih rest a₁ w₁ hr
        exact ⟨e₂, a₂, w₂, hq₂, .of_steps (harr _ hg) harr₂⟩
      | ret => exact ⟨_, a₁, w₁, hq, harr⟩
      | panic ch => exact ⟨_, a₁, w₁, hq, harr⟩
      | outgrown => exact ⟨_, a₁, w₁, hq, harr⟩
  obtain ⟨e, a₁, w₁, hq, harr⟩ := key n c a w first
  cases e with
  | normal => exact ⟨.normal, a₁, w₁, hq, Steps.trans (.one step_scope) harr⟩
  | exit id => exact ⟨.exit id, a₁, w₁, hq, fun k' hk => .head step_scope (harr k' hk)⟩
  | goto l' => exact ⟨.goto l', a₁, w₁, hq, fun k' hk => .head step_scope (harr k' hk)⟩
  | ret => exact ⟨_, a₁, w₁, hq, .of_steps (.one step_scope) harr⟩
  | panic ch => exact ⟨_, a₁, w₁, hq, .of_steps (.one step_scope) harr⟩
  | outgrown => exact ⟨_, a₁, w₁, hq, .of_steps (.one step_scope) harr⟩
/-- The same with what stands at the scope's ways out behind a name: a goto by 'hg', a return by 'hr', its end by 'hn'. -/
theorem wp_scope_k {P : Program} {a : Act} {w : World} {Q : Exit → Act → World → Prop} {c : Code} (n : Nat)
    (first : ∀ S : Nat → Exit → Act → World → Prop, (∀ m a w, Q .ret a w → S m .ret a w) → (∀ m a w, Q .normal a w → S m .normal a w) →
      (∀ m l rest a w, findLabel c l = some rest → rest.wp P (S m) a w → S (m + 1) (.goto l) a w) → c.wp P (S n) a w) : (Code.scope c).wp P Q a w :=
  wp_scope_fwd n (first (scopeQ P c Q) (fun _ _ _ h => scopeQ_ret h) (fun _ _ _ h => scopeQ_normal h) fun _ _ _ _ _ hf h => scopeQ_goto hf h)
def plusB (s : ByteArray) : Bool := decide (1 ≤ s.size) && ((s.extract 0 1).toList == [43])
set_option maxHeartbeats 1000000 in
set_option maxRecDepth 20000 in
theorem hasPlus_any (s : ByteArray) (w : World) :
    Calls Tryz.prog 101 #[.string s, .string ⟨#[43]⟩] w fun e w' => e = .returned (.bool (plusB s)) ∧ w' = w := by
  by_cases h : 1 ≤ s.size
  · have hm : plusB s = ((s.extract 0 1).toList == [43]) := by unfold plusB; rw [decide_eq_true h, Bool.true_and]
    rw [hm]
    clear hm
    go_enter Tryz.func101, Tryz.ntmps101
    go_wp2
    go_ret
    exact ⟨rfl, rfl⟩
  · have hm : plusB s = false := by unfold plusB; rw [decide_eq_false h, Bool.false_and]
    rw [hm]
    clear hm
    go_enter Tryz.func101, Tryz.ntmps101
    go_wp2
    go_ret
    exact ⟨rfl, rfl⟩
set_option maxHeartbeats 4000000 in
set_option maxRecDepth 20000 in
theorem hasPlusS (s : ByteArray) (w : World) :
    Calls Tryz.prog 79 #[.string s, .string ⟨#[43]⟩] w fun e w' => e = .returned (.bool (plusB s)) ∧ Below w.heap.size w w' := by
  obtain ⟨M, hM⟩ : ∃ M, plusB s = M := ⟨_, rfl⟩
  have HM := hide hM
  rw [hM]
  clear hM
  go_enter Tryz.func79, Tryz.ntmps79
  have hs := St.nil w
  refine wp_seq_k ?_
  intro K1 hK1
  refine rg [0] ?_
  refine sq ?_
  refine .mv ?_
  apply wpSq_end
  refine hK1 _ _ ?_
  refine wp_seq_k ?_
  intro K2 hK2
  refine rg [0, 1, 2, 3] ?_
  refine sq ?_
  refine .mv ?_
  refine sq ?_
  refine .mv ?_
  refine sq ?_
  intro K hK
  go_big_op
  go_fit (hasPlus_any s _)
  rintro e w_1 ⟨rfl, e_1⟩
  (first | rw [e_1] | rw [← e_1]); clear e_1 w_1
  rw [HM.out]
  refine hK _ _ rfl trivial ?_
  clear hK K
  refine sq ?_
  refine .mv ?_
  apply wpSq_end
  refine hK2 _ _ ?_
  refine wp_ret ?_
  try dsimp only [Exit.then, Exit.inBlock]
  refine bodyPost_ret (v := (.bool M)) (by simp [results, Tryz.results79, go_sem]) rfl ?_
  have hb := hs.b
  exact ⟨rfl, hb⟩
set_option maxHeartbeats 4000000 in
set_option maxRecDepth 20000 in
theorem hasMinusS (s : ByteArray) (w : World) :
    Calls Tryz.prog 79 #[.string s, .string ⟨#[45]⟩] w fun e w' => e = .returned (.bool (minusB s)) ∧ Below w.heap.size w w' := by
  obtain ⟨M, hM⟩ : ∃ M, minusB s = M := ⟨_, rfl⟩
  have HM := hide hM
  rw [hM]
  clear hM
  go_enter Tryz.func79, Tryz.ntmps79
  have hs := St.nil w
  refine wp_seq_k ?_
  intro K1 hK1
  refine rg [0] ?_
  refine sq ?_
  refine .mv ?_
  apply wpSq_end
  refine hK1 _ _ ?_
  refine wp_seq_k ?_
  intro K2 hK2
  refine rg [0, 1, 2, 3] ?_
  refine sq ?_
  refine .mv ?_
  refine sq ?_
  refine .mv ?_
  refine sq ?_
  intro K hK
  go_big_op
  go_fit (hasPrefix_any s _)
  rintro e w_1 ⟨rfl, e_1⟩
  (first | rw [e_1] | rw [← e_1]); clear e_1 w_1
  rw [HM.out]
  refine hK _ _ rfl trivial ?_
  clear hK K
  refine sq ?_
  refine .mv ?_
  apply wpSq_end
  refine hK2 _ _ ?_
  refine wp_ret ?_
  try dsimp only [Exit.then, Exit.inBlock]
  refine bodyPost_ret (v := (.bool M)) (by simp [results, Tryz.results79, go_sem]) rfl ?_
  have hb := hs.b
  exact ⟨rfl, hb⟩
/-- What is left behind the digits; the digits. -/
def unR (T : ByteArray) : ByteArray := ⟨(undig T.data.toList).toArray⟩
def unD (T : ByteArray) : ByteArray := T.extract 0 (T.size - (unR T).size)
theorem trimR_any (s : ByteArray) (w : World) :
    Calls Tryz.prog 80 #[.string s, .string ⟨#[48, 49, 50, 51, 52, 53, 54, 55, 56, 57]⟩] w fun e w' => e = .returned (.string (unR s)) ∧ Below w.heap.size w w' := trimS_any s w
theorem undig_len (l : List UInt8) : (undig l).length ≤ l.length := (List.dropWhile_sublist _).length_le
theorem unR_size (T : ByteArray) : (unR T).size ≤ T.size := by
  have := undig_len T.data.toList
  rw [Lib.size_eq, Lib.size_eq]
  unfold unR
  simpa using this
theorem plus_size {s : ByteArray} (h : plusB s = true) : 1 ≤ s.size := by
  unfold plusB at h; rw [Bool.and_eq_true] at h; exact of_decide_eq_true h.1
section
set_option maxHeartbeats 8000000 in
set_option maxRecDepth 20000 in
theorem cut_none (s : ByteArray) (w : World) (hsz : s.size ≤ 65536) (hp : plusB s = false) (hm : minusB s = false) :
    Calls Tryz.prog 48 #[.string s] w fun e w' => e = .returned (.tuple #[.string ⟨#[]⟩, .string (unD s), .string (unR s)]) ∧ Below w.heap.size w w' := by
  have HP := hide hp
  have HM := hide hm
  have hr := unR_size s
  have hw : wrap64 ((s.size : Int) - ((unR s).size : Int)) = ((s.size - (unR s).size : Nat) : Int) := by unfold wrap64; omega
  unfold unD
  clear hp hm
  go_enter Tryz.func48, Tryz.ntmps48
  have hs := St.nil w
  refine wp_seq_k ?_
  intro K1 hK1
  refine rg [0, 1, 2] ?_
  refine sq ?_
  refine .mv ?_
  refine sq ?_
  refine .mv ?_
  refine sq ?_
  refine .mv ?_
  apply wpSq_end
  refine hK1 _ _ ?_
  refine wp_seq_k ?_
  intro K2 hK2
  refine wp_seq_k ?_
  intro K3 hK3
  refine rg [0, 1, 2, 3, 4, 5] ?_
  refine sq ?_
  refine .mv ?_
  refine sq ?_
  intro K hK
  go_big_op
  go_fit (hasPlusS s _)
  rintro e w_1 ⟨rfl, hb_1⟩
  replace hs := hs.bl hb_1
  rw [HP.out]
  refine hK _ _ rfl trivial ?_
  clear hK K
  refine sq ?_
  refine .mv ?_
  refine sq ?_
  refine .mv ?_
  refine sq ?_
  intro K hK
  go_big_op
  go_fit (hasMinusS s _)
  rintro e w_2 ⟨rfl, hb_2⟩
  replace hs := hs.bl hb_2
  rw [HM.out]
  refine hK _ _ rfl trivial ?_
  clear hK K
  refine sq ?_
  refine .r0 ?_
  apply wpSq_end
  refine hK3 _ _ ?_
  refine cf ?_
  refine wp_skip ?_
  refine hK2 _ _ ?_
  refine wp_seq_k ?_
  intro K4 hK4
  refine rg [0, 1, 2] ?_
  refine sq ?_
  refine .mv ?_
  refine sq ?_
  intro K hK
  go_big_op
  go_fit (trimR_any s _)
  rintro e w_3 ⟨rfl, hb_3⟩
  replace hs := hs.bl hb_3
  refine hK _ _ rfl trivial ?_
  clear hK K
  refine sq ?_
  refine .mv ?_
  apply wpSq_end
  refine hK4 _ _ ?_
  refine wp_seq_k ?_
  intro K5 hK5
  refine wp_region_f4 [(0, false), (1, false), (2, false), (3, false), (4, false), (5, false), (6, false), (7, false), (8, false), (9, false), (10, false), (11, false)] [] [] (fun _ => default) [99, 99, 99, 99, 99, 99, 99, 99, 99, 99, 99, 99] [] AllB.n fn fun w_4 n4 => ?_
  replace hs := hs.bl n4
  refine fmv ?_
  refine fmv ?_
  refine fmv ?_
  refine fb ?_
  refine fmv ?_
  refine fb ?_
  refine f0 ?_
  refine f0 ?_
  refine fmv ?_
  refine fmv ?_
  refine fmv ?_
  refine fmv ?_
  refine e0 hs ?_; clear hs; intro w_5 hs n5
  apply wpTail_end
  refine hK5 _ _ ?_
  refine wp_ret ?_
  try dsimp only [Exit.then, Exit.inBlock]
  refine bodyPost_ret (v := (.tuple #[.string ⟨#[]⟩, .string (s.extract 0 (s.size - (unR s).size)), .string (unR s)])) (by simp [results, Tryz.results48, go_sem]) rfl ?_
  have hb := hs.b
  exact ⟨rfl, hb⟩
set_option maxHeartbeats 8000000 in
set_option maxRecDepth 20000 in
theorem cut_plus (s : ByteArray) (w : World) (hsz : s.size ≤ 65536) (hp : plusB s = true) :
    Calls Tryz.prog 48 #[.string s] w fun e w' => e = .returned (.tuple #[.string (s.extract 0 1), .string (unD (s.extract 1 s.size)), .string (unR (s.extract 1 s.size))]) ∧ Below w.heap.size w w' := by
  have HP := hide hp
  have h1 := plus_size hp
  clear hp
  have hr := unR_size (s.extract 1 s.size)
  have hz : (s.extract 1 s.size).size = s.size - 1 := rest_size
  unfold unD
  rw [hz] at hr
  rw [hz]
  have hw : wrap64 (((s.size - 1 : Nat) : Int) - ((unR (s.extract 1 s.size)).size : Int)) = ((s.size - 1 - (unR (s.extract 1 s.size)).size : Nat) : Int) := by unfold wrap64; omega
  clear hz
  go_enter Tryz.func48, Tryz.ntmps48
  have hs := St.nil w
  refine wp_seq_k ?_
  intro K1 hK1
  refine rg [0, 1, 2] ?_
  refine sq ?_
  refine .mv ?_
  refine sq ?_
  refine .mv ?_
  refine sq ?_
  refine .mv ?_
  apply wpSq_end
  refine hK1 _ _ ?_
  refine wp_seq_k ?_
  intro K2 hK2
  refine wp_seq_k ?_
  intro K3 hK3
  refine rg [0, 1, 2, 3, 4, 5] ?_
  refine sq ?_
  refine .mv ?_
  refine sq ?_
  intro K hK
  go_big_op
  go_fit (hasPlusS s _)
  rintro e w_1 ⟨rfl, hb_1⟩
  replace hs := hs.bl hb_1
  rw [HP.out]
  refine hK _ _ rfl trivial ?_
  clear hK K
  refine sq ?_
  refine .mv ?_
  refine sk ?_
  refine sk ?_
  refine sq ?_
  refine .r0 ?_
  apply wpSq_end
  refine hK3 _ _ ?_
  refine ct ?_
  refine wp_region_f4 [(0, false), (1, false), (2, false), (3, false), (4, false), (5, false)] [] [] (fun _ => default) [99, 99, 99, 99, 99, 99] [] AllB.n fn fun w_2 n2 => ?_
  replace hs := hs.bl n2
  refine fmv ?_
  refine f0 ?_
  refine fmv ?_
  refine f0 ?_
  refine fmv ?_
  refine fmv ?_
  refine e0 hs ?_; clear hs; intro w_3 hs n3
  apply wpTail_end
  refine hK2 _ _ ?_
  refine wp_seq_k ?_
  intro K4 hK4
  refine rg [0, 1, 2] ?_
  refine sq ?_
  refine .mv ?_
  refine sq ?_
  intro K hK
  go_big_op
  go_fit (trimR_any (s.extract 1 s.size) _)
  rintro e w_4 ⟨rfl, hb_4⟩
  replace hs := hs.bl hb_4
  refine hK _ _ rfl trivial ?_
  clear hK K
  refine sq ?_
  refine .mv ?_
  apply wpSq_end
  refine hK4 _ _ ?_
  refine wp_seq_k ?_
  intro K5 hK5
  refine wp_region_f4 [(0, false), (1, false), (2, false), (3, false), (4, false), (5, false), (6, false), (7, false), (8, false), (9, false), (10, false), (11, false)] [] [] (fun _ => default) [99, 99, 99, 99, 99, 99, 99, 99, 99, 99, 99, 99] [] AllB.n fn fun w_5 n5 => ?_
  replace hs := hs.bl n5
  refine fmv ?_
  refine fmv ?_
  refine fmv ?_
  refine fb ?_
  refine fmv ?_
  refine fb ?_
  refine f0 ?_
  refine f0 ?_
  refine fmv ?_
  refine fmv ?_
  refine fmv ?_
  refine fmv ?_
  refine e0 hs ?_; clear hs; intro w_6 hs n6
  apply wpTail_end
  refine hK5 _ _ ?_
  refine wp_ret ?_
  try dsimp only [Exit.then, Exit.inBlock]
  refine bodyPost_ret (v := (.tuple #[.string (s.extract 0 1), .string ((s.extract 1 s.size).extract 0 (s.size - 1 - (unR (s.extract 1 s.size)).size)), .string (unR (s.extract 1 s.size))])) (by simp [results, Tryz.results48, go_sem]) rfl ?_
  have hb := hs.b
  exact ⟨rfl, hb⟩
set_option maxHeartbeats 8000000 in
set_option maxRecDepth 20000 in
theorem cut_minus (s : ByteArray) (w : World) (hsz : s.size ≤ 65536) (hp : plusB s = false) (hm : minusB s = true) :
    Calls Tryz.prog 48 #[.string s] w fun e w' => e = .returned (.tuple #[.string (s.extract 0 1), .string (unD (s.extract 1 s.size)), .string (unR (s.extract 1 s.size))]) ∧ Below w.heap.size w w' := by
  have HP := hide hp
  have HM := hide hm
  have h1 := minus_size hm
  clear hp hm
  have hr := unR_size (s.extract 1 s.size)
  have hz : (s.extract 1 s.size).size = s.size - 1 := rest_size
  unfold unD
  rw [hz] at hr
  rw [hz]
  have hw : wrap64 (((s.size - 1 : Nat) : Int) - ((unR (s.extract 1 s.size)).size : Int)) = ((s.size - 1 - (unR (s.extract 1 s.size)).size : Nat) : Int) := by unfold wrap64; omega
  clear hz
  go_enter Tryz.func48, Tryz.ntmps48
  have hs := St.nil w
  refine wp_seq_k ?_
  intro K1 hK1
  refine rg [0, 1, 2] ?_
  refine sq ?_
  refine .mv ?_
  refine sq ?_
  refine .mv ?_
  refine sq ?_
  refine .mv ?_
  apply wpSq_end
  refine hK1 _ _ ?_
  refine wp_seq_k ?_
  intro K2 hK2
  refine wp_seq_k ?_
  intro K3 hK3
  refine rg [0, 1, 2, 3, 4, 5] ?_
  refine sq ?_
  refine .mv ?_
  refine sq ?_
  intro K hK
  go_big_op
  go_fit (hasPlusS s _)
  rintro e w_1 ⟨rfl, hb_1⟩
  replace hs := hs.bl hb_1
  rw [HP.out]
  refine hK _ _ rfl trivial ?_
  clear hK K
  refine sq ?_
  refine .mv ?_
  refine sq ?_
  refine .mv ?_
  refine sq ?_
  intro K hK
  go_big_op
  go_fit (hasMinusS s _)
  rintro e w_2 ⟨rfl, hb_2⟩
  replace hs := hs.bl hb_2
  rw [HM.out]
  refine hK _ _ rfl trivial ?_
  clear hK K
  refine sq ?_
  refine .r0 ?_
  apply wpSq_end
  refine hK3 _ _ ?_
  refine ct ?_
  refine wp_region_f4 [(0, false), (1, false), (2, false), (3, false), (4, false), (5, false)] [] [] (fun _ => default) [99, 99, 99, 99, 99, 99] [] AllB.n fn fun w_3 n3 => ?_
  replace hs := hs.bl n3
  refine fmv ?_
  refine f0 ?_
  refine fmv ?_
  refine f0 ?_
  refine fmv ?_
  refine fmv ?_
  refine e0 hs ?_; clear hs; intro w_4 hs n4
  apply wpTail_end
  refine hK2 _ _ ?_
  refine wp_seq_k ?_
  intro K4 hK4
  refine rg [0, 1, 2] ?_
  refine sq ?_
  refine .mv ?_
  refine sq ?_
  intro K hK
  go_big_op
  go_fit (trimR_any (s.extract 1 s.size) _)
  rintro e w_5 ⟨rfl, hb_5⟩
  replace hs := hs.bl hb_5
  refine hK _ _ rfl trivial ?_
  clear hK K
  refine sq ?_
  refine .mv ?_
  apply wpSq_end
  refine hK4 _ _ ?_
  refine wp_seq_k ?_
  intro K5 hK5
  refine wp_region_f4 [(0, false), (1, false), (2, false), (3, false), (4, false), (5, false), (6, false), (7, false), (8, false), (9, false), (10, false), (11, false)] [] [] (fun _ => default) [99, 99, 99, 99, 99, 99, 99, 99, 99, 99, 99, 99] [] AllB.n fn fun w_6 n6 => ?_
  replace hs := hs.bl n6
  refine fmv ?_
  refine fmv ?_
  refine fmv ?_
  refine fb ?_
  refine fmv ?_
  refine fb ?_
  refine f0 ?_
  refine f0 ?_
  refine fmv ?_
  refine fmv ?_
  refine fmv ?_
  refine fmv ?_
  refine e0 hs ?_; clear hs; intro w_7 hs n7
  apply wpTail_end
  refine hK5 _ _ ?_
  refine wp_ret ?_
  try dsimp only [Exit.then, Exit.inBlock]
  refine bodyPost_ret (v := (.tuple #[.string (s.extract 0 1), .string ((s.extract 1 s.size).extract 0 (s.size - 1 - (unR (s.extract 1 s.size)).size)), .string (unR (s.extract 1 s.size))])) (by simp [results, Tryz.results48, go_sem]) rfl ?_
  have hb := hs.b
  exact ⟨rfl, hb⟩
end
/-- What cutPart tells of a text. -/
def CutIs (s A D R : ByteArray) : Prop := ∀ w : World, Calls Tryz.prog 48 #[.string s] w fun e w' => e = .returned (.tuple #[.string A, .string D, .string R]) ∧ Below w.heap.size w w'
section
variable {s A D R A2 D2 R2 : ByteArray}
set_option maxHeartbeats 8000000 in
set_option maxRecDepth 20000 in
theorem parse_whole (w : World) (hsz : s.size ≤ 65536) (hc : CutIs s A D R) (hA : (A.toList == [43]) = false) (hR : (R.toList == [105]) = false) (hR0 : (R.toList == []) = true) (hz : zok (A ++ D) = true) (hAD : (A ++ D).size ≤ 65536) :
    Calls Tryz.prog 20 #[.string s] w fun e w' => ∃ r, e = .returned (.tuple #[r, .int .i64 0]) ∧ PC w' r (zvl (A ++ D)) 0 ∧ Below w.heap.size w w' := by
  have HC := hide hc
  have HZ := hide (And.intro hz hAD)
  have hsz : A.size + D.size ≤ 65536 := by rw [← ByteArray.size_append]; exact hAD
  have HL := hide (zvl_len hAD hz)
  have hsz' : (65536 < (s.size : Int)) = False := eq_false (by omega)
  clear hc hz
  go_enter Tryz.func20, Tryz.ntmps20
  have hs := St.nil w
  refine wp_seq_k ?_
  intro K1 hK1
  refine rg [0, 1] ?_
  refine sq ?_
  refine .al hs ?_; clear hs; intro p_b1 w_1 hs n1 kb_b1
  refine sq ?_
  refine .mv ?_
  apply wpSq_end
  refine hK1 _ _ ?_
  refine wp_scope_k 9 ?_
  intro S hSr hSn hSg
  refine wp_seq_k ?_
  intro K2 hK2
  refine wp_seq_k ?_
  intro K3 hK3
  refine rg [0, 1, 2] ?_
  refine sq ?_
  refine .mv ?_
  refine sq ?_
  refine .r0 ?_
  refine sq ?_
  refine .r0 ?_
  apply wpSq_end
  refine hK3 _ _ ?_
  refine cf ?_
  refine wp_skip ?_
  refine hK2 _ _ ?_
  refine wp_seq_k ?_
  intro K4 hK4
  refine rg [0] ?_
  refine sq ?_
  refine .al hs ?_; clear hs; intro p_b2 w_2 hs n2 kb_b2
  apply wpSq_end
  refine hK4 _ _ ?_
  refine wp_seq_k ?_
  intro K5 hK5
  refine rg [0] ?_
  refine sq ?_
  refine .mv ?_
  apply wpSq_end
  refine hK5 _ _ ?_
  refine wp_seq_k ?_
  intro K6 hK6
  refine rg [0, 1, 2, 3, 4, 5, 6, 7, 8] ?_
  refine sq ?_
  refine .mv ?_
  refine sq ?_
  intro K hK
  go_big_op
  go_fit (HC.out _)
  rintro e w_3 ⟨rfl, hb_3⟩
  replace hs := hs.bl hb_3
  refine hK _ _ rfl trivial ?_
  clear hK K
  refine sq ?_
  refine .mv ?_
  refine sq ?_
  refine .r0 ?_
  refine sq ?_
  refine .r0 ?_
  refine sq ?_
  refine .r0 ?_
  refine sq ?_
  refine .mv ?_
  refine sq ?_
  refine .mv ?_
  refine sq ?_
  refine .mv ?_
  apply wpSq_end
  refine hK6 _ _ ?_
  refine wp_seq_k ?_
  intro K7 hK7
  refine wp_seq_k ?_
  intro K8 hK8
  refine rg [0, 1] ?_
  refine sq ?_
  refine .mv ?_
  refine sq ?_
  refine .r0 ?_
  apply wpSq_end
  refine hK8 _ _ ?_
  refine cf ?_
  refine wp_skip ?_
  refine hK7 _ _ ?_
  refine wp_seq_k ?_
  intro K9 hK9
  refine wp_seq_k ?_
  intro K10 hK10
  refine rg [0, 1] ?_
  refine sq ?_
  refine .mv ?_
  refine sq ?_
  refine .r0 ?_
  apply wpSq_end
  refine hK10 _ _ ?_
  refine cf ?_
  refine wp_skip ?_
  refine hK9 _ _ ?_
  refine wp_seq_k ?_
  intro K11 hK11
  refine rg [0, 1, 2, 3, 4, 5, 6, 7, 8, 9] ?_
  refine sq ?_
  refine .mv ?_
  refine sq ?_
  refine .mv ?_
  refine sq ?_
  refine .r0 ?_
  refine sq ?_
  intro K hK
  go_big_op
  go_fit (zparse_ok (A ++ D) _ HZ.out.2 HZ.out.1)
  rintro e w_4 ⟨v_g, rfl, g, hb_4⟩
  replace hs := hs.bl hb_4
  obtain ⟨n_g, o_g, k_g, c_g, rfl⟩ := g.open2
  have Lg := hide (g.lenOf (HL.out))
  refine hK _ _ rfl trivial ?_
  clear hK K
  refine sq ?_
  refine .mv ?_
  refine sq ?_
  refine .r0 ?_
  refine sq ?_
  refine .r0 ?_
  refine sq ?_
  refine .r0 ?_
  refine sq ?_
  intro K hK
  have xs := hs.g0
  obtain ⟨d0, d1, d2, d3⟩ := hs.g0.f4
  have f0 := xs.free 0; have f1 := xs.free 1
  go_big_op
  have hd5 := xs.nod rfl rfl
  obtain ⟨w_5, eW, xs', ho5⟩ : ∃ w', ((w_4.setCell ⟨p_b2, 0, none⟩ (.bool n_g)).setCell ⟨p_b2, 1, none⟩ (.slice o_g k_g c_g)) = w' ∧ Bs w' p_b2 #[.bool n_g, .slice o_g k_g c_g, .bool false, .slice none 0 0] 29 ∧ Only p_b2 w_4 w' := xs.setN [(0, .bool n_g), (1, .slice o_g k_g c_g)]
  rw [eW]; clear eW d0 d1 d2 d3 f0 f1 xs
  replace hs := hs.u0 kb_b2 xs' ho5; clear xs'
  refine hK _ _ rfl trivial ?_; clear hK K
  refine sq ?_
  refine .mv ?_
  apply wpSq_end
  refine hK11 _ _ ?_
  refine wp_seq_k ?_
  intro K12 hK12
  refine wp_seq_k ?_
  intro K13 hK13
  refine rg [0, 1] ?_
  refine sq ?_
  refine .mv ?_
  refine sq ?_
  refine .r0 ?_
  apply wpSq_end
  refine hK13 _ _ ?_
  refine cf ?_
  refine wp_skip ?_
  refine hK12 _ _ ?_
  refine wp_seq_k ?_
  intro K14 hK14
  refine wp_seq_k ?_
  intro K15 hK15
  refine rg [0, 1] ?_
  refine sq ?_
  refine .mv ?_
  refine sq ?_
  refine .r0 ?_
  apply wpSq_end
  refine hK15 _ _ ?_
  refine ct ?_
  refine wp_goto ?_
  refine hSg _ _ _ _ _ rfl ?_
  refine wp_seq_k ?_
  intro K16 hK16
  refine wp_skip ?_
  refine hK16 _ _ ?_
  refine wp_seq_k ?_
  intro K17 hK17
  refine wp_seq_k ?_
  intro K18 hK18
  refine rg [0, 1, 2] ?_
  refine sq ?_
  refine .r4 hs.g0.f4 ?_
  refine sq ?_
  refine .s4 hs.g1 (fun _ => hs.u1 kb_b1) ?_; clear hs; intro w_6 hs hd6 ho6
  refine sq ?_
  refine .mv ?_
  apply wpSq_end
  refine hK18 _ _ ?_
  refine wp_ret ?_
  refine hSr _ _ _ ?_
  try dsimp only [Exit.then, Exit.inBlock]
  obtain ⟨r0_0, r0_1, r0_2, r0_3⟩ := hs.g1.f4
  refine bodyPost_ret (v := (.tuple #[(.agg #[.bool n_g, .slice o_g k_g c_g, .bool false, .slice none 0 0]), (.int .i64 0)])) (by simp [results, Tryz.results20, go_sem, r0_0, r0_1, r0_2, r0_3]) rfl ?_
  have k4_6 := (ko hd5 ho5).o hd6 ho6
  replace g := g.k k4_6
  exact ⟨_, rfl, .mk' g (zc_zero w_6), hs.b⟩
set_option maxHeartbeats 8000000 in
set_option maxRecDepth 20000 in
theorem parse_im_ep (w : World) (hsz : s.size ≤ 65536) (hc : CutIs s A D R) (hA : (A.toList == [43]) = false) (hR : (R.toList == [105]) = true) (hD : (D.toList == []) = true) (hM : (A.toList == [45]) = false) :
    Calls Tryz.prog 20 #[.string s] w fun e w' => ∃ r, e = .returned (.tuple #[r, .int .i64 0]) ∧ PC w' r 0 (1) ∧ Below w.heap.size w w' := by
  have HC := hide hc
  have hsz' : (65536 < (s.size : Int)) = False := eq_false (by omega)
  have H1 := hide (And.intro (show zok ⟨#[49]⟩ = true by kernel_rfl) (show zvl ⟨#[49]⟩ = 1 by kernel_rfl))
  clear hc
  go_enter Tryz.func20, Tryz.ntmps20
  have hs := St.nil w
  refine wp_seq_k ?_
  intro K1 hK1
  refine rg [0, 1] ?_
  refine sq ?_
  refine .al hs ?_; clear hs; intro p_b1 w_1 hs n1 kb_b1
  refine sq ?_
  refine .mv ?_
  apply wpSq_end
  refine hK1 _ _ ?_
  refine wp_scope_k 9 ?_
  intro S hSr hSn hSg
  refine wp_seq_k ?_
  intro K2 hK2
  refine wp_seq_k ?_
  intro K3 hK3
  refine rg [0, 1, 2] ?_
  refine sq ?_
  refine .mv ?_
  refine sq ?_
  refine .r0 ?_
  refine sq ?_
  refine .r0 ?_
  apply wpSq_end
  refine hK3 _ _ ?_
  refine cf ?_
  refine wp_skip ?_
  refine hK2 _ _ ?_
  refine wp_seq_k ?_
  intro K4 hK4
  refine rg [0] ?_
  refine sq ?_
  refine .al hs ?_; clear hs; intro p_b2 w_2 hs n2 kb_b2
  apply wpSq_end
  refine hK4 _ _ ?_
  refine wp_seq_k ?_
  intro K5 hK5
  refine rg [0] ?_
  refine sq ?_
  refine .mv ?_
  apply wpSq_end
  refine hK5 _ _ ?_
  refine wp_seq_k ?_
  intro K6 hK6
  refine rg [0, 1, 2, 3, 4, 5, 6, 7, 8] ?_
  refine sq ?_
  refine .mv ?_
  refine sq ?_
  intro K hK
  go_big_op
  go_fit (HC.out _)
  rintro e w_3 ⟨rfl, hb_3⟩
  replace hs := hs.bl hb_3
  refine hK _ _ rfl trivial ?_
  clear hK K
  refine sq ?_
  refine .mv ?_
  refine sq ?_
  refine .r0 ?_
  refine sq ?_
  refine .r0 ?_
  refine sq ?_
  refine .r0 ?_
  refine sq ?_
  refine .mv ?_
  refine sq ?_
  refine .mv ?_
  refine sq ?_
  refine .mv ?_
  apply wpSq_end
  refine hK6 _ _ ?_
  refine wp_seq_k ?_
  intro K7 hK7
  refine wp_seq_k ?_
  intro K8 hK8
  refine rg [0, 1] ?_
  refine sq ?_
  refine .mv ?_
  refine sq ?_
  refine .r0 ?_
  apply wpSq_end
  refine hK8 _ _ ?_
  refine cf ?_
  refine wp_skip ?_
  refine hK7 _ _ ?_
  refine wp_seq_k ?_
  intro K9 hK9
  refine wp_seq_k ?_
  intro K10 hK10
  refine rg [0, 1] ?_
  refine sq ?_
  refine .mv ?_
  refine sq ?_
  refine .r0 ?_
  apply wpSq_end
  refine hK10 _ _ ?_
  refine ct ?_
  refine wp_goto ?_
  refine hSg _ _ _ _ _ rfl ?_
  refine wp_seq_k ?_
  intro K11 hK11
  refine wp_skip ?_
  refine hK11 _ _ ?_
  refine wp_seq_k ?_
  intro K12 hK12
  refine wp_seq_k ?_
  intro K13 hK13
  refine rg [0, 1] ?_
  refine sq ?_
  refine .mv ?_
  refine sq ?_
  refine .r0 ?_
  apply wpSq_end
  refine hK13 _ _ ?_
  refine ct ?_
  refine rg [0] ?_
  refine sq ?_
  refine .mv ?_
  apply wpSq_end
  refine hK12 _ _ ?_
  refine wp_seq_k ?_
  intro K14 hK14
  refine rg [0, 1, 2, 3, 4, 5, 6] ?_
  refine sq ?_
  refine .mv ?_
  refine sq ?_
  intro K hK
  go_big_op
  go_fit (zparse_ok ⟨#[49]⟩ _ (by decide) H1.out.1)
  rintro e w_4 ⟨v_g, rfl, g, hb_4⟩
  replace hs := hs.bl hb_4
  obtain ⟨n_g, o_g, k_g, c_g, rfl⟩ := g.open2
  rw [H1.out.2] at g
  refine hK _ _ rfl trivial ?_
  clear hK K
  refine sq ?_
  refine .mv ?_
  refine sq ?_
  refine .r0 ?_
  refine sq ?_
  refine .r0 ?_
  refine sq ?_
  refine .r0 ?_
  refine sq ?_
  intro K hK
  have xs := hs.g0
  obtain ⟨d0, d1, d2, d3⟩ := hs.g0.f4
  have f0 := xs.free 2; have f1 := xs.free 3
  go_big_op
  have hd5 := xs.nod rfl rfl
  obtain ⟨w_5, eW, xs', ho5⟩ : ∃ w', ((w_4.setCell ⟨p_b2, 2, none⟩ (.bool n_g)).setCell ⟨p_b2, 3, none⟩ (.slice o_g k_g c_g)) = w' ∧ Bs w' p_b2 #[.bool false, .slice none 0 0, .bool n_g, .slice o_g k_g c_g] 29 ∧ Only p_b2 w_4 w' := xs.setN [(2, .bool n_g), (3, .slice o_g k_g c_g)]
  rw [eW]; clear eW d0 d1 d2 d3 f0 f1 xs
  replace hs := hs.u0 kb_b2 xs' ho5; clear xs'
  refine hK _ _ rfl trivial ?_; clear hK K
  apply wpSq_end
  refine hK14 _ _ ?_
  refine wp_seq_k ?_
  intro K15 hK15
  refine wp_seq_k ?_
  intro K16 hK16
  refine rg [0, 1] ?_
  refine sq ?_
  refine .mv ?_
  refine sq ?_
  refine .r0 ?_
  apply wpSq_end
  refine hK16 _ _ ?_
  have Lg := hide (show (dig (Int.natAbs 1)).length ≤ 1 by decide)
  refine cf ?_
  refine wp_skip ?_
  refine hK15 _ _ ?_
  refine wp_seq_k ?_
  intro K17 hK17
  refine wp_label ?_
  refine hK17 _ _ ?_
  refine wp_seq_k ?_
  intro K18 hK18
  refine wp_seq_k ?_
  intro K19 hK19
  refine rg [0, 1, 2] ?_
  refine sq ?_
  refine .r4 hs.g0.f4 ?_
  refine sq ?_
  refine .s4 hs.g1 (fun _ => hs.u1 kb_b1) ?_; clear hs; intro w_6 hs hd6 ho6
  refine sq ?_
  refine .mv ?_
  apply wpSq_end
  refine hK19 _ _ ?_
  refine wp_ret ?_
  refine hSr _ _ _ ?_
  try dsimp only [Exit.then, Exit.inBlock]
  obtain ⟨r0_0, r0_1, r0_2, r0_3⟩ := hs.g1.f4
  refine bodyPost_ret (v := (.tuple #[(.agg #[.bool false, .slice none 0 0, .bool n_g, .slice o_g k_g c_g]), (.int .i64 0)])) (by simp [results, Tryz.results20, go_sem, r0_0, r0_1, r0_2, r0_3]) rfl ?_
  have k4_6 := (ko hd5 ho5).o hd6 ho6
  replace g := g.k k4_6
  exact ⟨_, rfl, .mk' (zc_zero w_6) g, hs.b⟩
set_option maxHeartbeats 8000000 in
set_option maxRecDepth 20000 in
theorem parse_im_em (w : World) (hsz : s.size ≤ 65536) (hc : CutIs s A D R) (hA : (A.toList == [43]) = false) (hR : (R.toList == [105]) = true) (hD : (D.toList == []) = true) (hM : (A.toList == [45]) = true) :
    Calls Tryz.prog 20 #[.string s] w fun e w' => ∃ r, e = .returned (.tuple #[r, .int .i64 0]) ∧ PC w' r 0 (-1) ∧ Below w.heap.size w w' := by
  have HC := hide hc
  have hsz' : (65536 < (s.size : Int)) = False := eq_false (by omega)
  have H1 := hide (And.intro (show zok ⟨#[49]⟩ = true by kernel_rfl) (show zvl ⟨#[49]⟩ = 1 by kernel_rfl))
  clear hc
  go_enter Tryz.func20, Tryz.ntmps20
  have hs := St.nil w
  refine wp_seq_k ?_
  intro K1 hK1
  refine rg [0, 1] ?_
  refine sq ?_
  refine .al hs ?_; clear hs; intro p_b1 w_1 hs n1 kb_b1
  refine sq ?_
  refine .mv ?_
  apply wpSq_end
  refine hK1 _ _ ?_
  refine wp_scope_k 9 ?_
  intro S hSr hSn hSg
  refine wp_seq_k ?_
  intro K2 hK2
  refine wp_seq_k ?_
  intro K3 hK3
  refine rg [0, 1, 2] ?_
  refine sq ?_
  refine .mv ?_
  refine sq ?_
  refine .r0 ?_
  refine sq ?_
  refine .r0 ?_
  apply wpSq_end
  refine hK3 _ _ ?_
  refine cf ?_
  refine wp_skip ?_
  refine hK2 _ _ ?_
  refine wp_seq_k ?_
  intro K4 hK4
  refine rg [0] ?_
  refine sq ?_
  refine .al hs ?_; clear hs; intro p_b2 w_2 hs n2 kb_b2
  apply wpSq_end
  refine hK4 _ _ ?_
  refine wp_seq_k ?_
  intro K5 hK5
  refine rg [0] ?_
  refine sq ?_
  refine .mv ?_
  apply wpSq_end
  refine hK5 _ _ ?_
  refine wp_seq_k ?_
  intro K6 hK6
  refine rg [0, 1, 2, 3, 4, 5, 6, 7, 8] ?_
  refine sq ?_
  refine .mv ?_
  refine sq ?_
  intro K hK
  go_big_op
  go_fit (HC.out _)
  rintro e w_3 ⟨rfl, hb_3⟩
  replace hs := hs.bl hb_3
  refine hK _ _ rfl trivial ?_
  clear hK K
  refine sq ?_
  refine .mv ?_
  refine sq ?_
  refine .r0 ?_
  refine sq ?_
  refine .r0 ?_
  refine sq ?_
  refine .r0 ?_
  refine sq ?_
  refine .mv ?_
  refine sq ?_
  refine .mv ?_
  refine sq ?_
  refine .mv ?_
  apply wpSq_end
  refine hK6 _ _ ?_
  refine wp_seq_k ?_
  intro K7 hK7
  refine wp_seq_k ?_
  intro K8 hK8
  refine rg [0, 1] ?_
  refine sq ?_
  refine .mv ?_
  refine sq ?_
  refine .r0 ?_
  apply wpSq_end
  refine hK8 _ _ ?_
  refine cf ?_
  refine wp_skip ?_
  refine hK7 _ _ ?_
  refine wp_seq_k ?_
  intro K9 hK9
  refine wp_seq_k ?_
  intro K10 hK10
  refine rg [0, 1] ?_
  refine sq ?_
  refine .mv ?_
  refine sq ?_
  refine .r0 ?_
  apply wpSq_end
  refine hK10 _ _ ?_
  refine ct ?_
  refine wp_goto ?_
  refine hSg _ _ _ _ _ rfl ?_
  refine wp_seq_k ?_
  intro K11 hK11
  refine wp_skip ?_
  refine hK11 _ _ ?_
  refine wp_seq_k ?_
  intro K12 hK12
  refine wp_seq_k ?_
  intro K13 hK13
  refine rg [0, 1] ?_
  refine sq ?_
  refine .mv ?_
  refine sq ?_
  refine .r0 ?_
  apply wpSq_end
  refine hK13 _ _ ?_
  refine ct ?_
  refine rg [0] ?_
  refine sq ?_
  refine .mv ?_
  apply wpSq_end
  refine hK12 _ _ ?_
  refine wp_seq_k ?_
  intro K14 hK14
  refine rg [0, 1, 2, 3, 4, 5, 6] ?_
  refine sq ?_
  refine .mv ?_
  refine sq ?_
  intro K hK
  go_big_op
  go_fit (zparse_ok ⟨#[49]⟩ _ (by decide) H1.out.1)
  rintro e w_4 ⟨v_g, rfl, g, hb_4⟩
  replace hs := hs.bl hb_4
  obtain ⟨n_g, o_g, k_g, c_g, rfl⟩ := g.open2
  rw [H1.out.2] at g
  refine hK _ _ rfl trivial ?_
  clear hK K
  refine sq ?_
  refine .mv ?_
  refine sq ?_
  refine .r0 ?_
  refine sq ?_
  refine .r0 ?_
  refine sq ?_
  refine .r0 ?_
  refine sq ?_
  intro K hK
  have xs := hs.g0
  obtain ⟨d0, d1, d2, d3⟩ := hs.g0.f4
  have f0 := xs.free 2; have f1 := xs.free 3
  go_big_op
  have hd5 := xs.nod rfl rfl
  obtain ⟨w_5, eW, xs', ho5⟩ : ∃ w', ((w_4.setCell ⟨p_b2, 2, none⟩ (.bool n_g)).setCell ⟨p_b2, 3, none⟩ (.slice o_g k_g c_g)) = w' ∧ Bs w' p_b2 #[.bool false, .slice none 0 0, .bool n_g, .slice o_g k_g c_g] 29 ∧ Only p_b2 w_4 w' := xs.setN [(2, .bool n_g), (3, .slice o_g k_g c_g)]
  rw [eW]; clear eW d0 d1 d2 d3 f0 f1 xs
  replace hs := hs.u0 kb_b2 xs' ho5; clear xs'
  refine hK _ _ rfl trivial ?_; clear hK K
  apply wpSq_end
  refine hK14 _ _ ?_
  refine wp_seq_k ?_
  intro K15 hK15
  refine wp_seq_k ?_
  intro K16 hK16
  refine rg [0, 1] ?_
  refine sq ?_
  refine .mv ?_
  refine sq ?_
  refine .r0 ?_
  apply wpSq_end
  refine hK16 _ _ ?_
  have Lg := hide (show (dig (Int.natAbs 1)).length ≤ 1 by decide)
  refine ct ?_
  refine rg [0, 1, 2, 3, 4] ?_
  refine sq ?_
  refine .r0 ?_
  refine sq ?_
  refine .r4 hs.g0.f4 ?_
  refine sq ?_
  intro K hK
  have k4_5 := ko hd5 ho5
  replace g := g.k k4_5
  go_big_op
  go_fit (zneg_any (g.zn Lg.out) (by omega) )
  rintro e w_6 ⟨v_o, rfl, o, hb_6⟩
  replace hs := hs.bl hb_6
  replace o := o.rd
  obtain ⟨n_o, o_o, k_o, c_o, rfl⟩ := o.open2
  have Lo := hide (o.lenOf (zlen_neg (Lg.out)))
  refine hK _ _ rfl trivial ?_
  clear hK K
  refine sq ?_
  refine .r0 ?_
  refine sq ?_
  intro K hK
  have xs := hs.g0
  obtain ⟨d0, d1, d2, d3⟩ := hs.g0.f4
  have f0 := xs.free 2; have f1 := xs.free 3
  go_big_op
  have hd7 := xs.nod rfl rfl
  obtain ⟨w_7, eW, xs', ho7⟩ : ∃ w', ((w_6.setCell ⟨p_b2, 2, none⟩ (.bool n_o)).setCell ⟨p_b2, 3, none⟩ (.slice o_o k_o c_o)) = w' ∧ Bs w' p_b2 #[.bool false, .slice none 0 0, .bool n_o, .slice o_o k_o c_o] 29 ∧ Only p_b2 w_6 w' := xs.setN [(2, .bool n_o), (3, .slice o_o k_o c_o)]
  rw [eW]; clear eW d0 d1 d2 d3 f0 f1 xs
  replace hs := hs.u0 kb_b2 xs' ho7; clear xs'
  refine hK _ _ rfl trivial ?_; clear hK K
  apply wpSq_end
  refine hK15 _ _ ?_
  refine wp_seq_k ?_
  intro K17 hK17
  refine wp_label ?_
  refine hK17 _ _ ?_
  refine wp_seq_k ?_
  intro K18 hK18
  refine wp_seq_k ?_
  intro K19 hK19
  refine rg [0, 1, 2] ?_
  refine sq ?_
  refine .r4 hs.g0.f4 ?_
  refine sq ?_
  refine .s4 hs.g1 (fun _ => hs.u1 kb_b1) ?_; clear hs; intro w_8 hs hd8 ho8
  refine sq ?_
  refine .mv ?_
  apply wpSq_end
  refine hK19 _ _ ?_
  refine wp_ret ?_
  refine hSr _ _ _ ?_
  try dsimp only [Exit.then, Exit.inBlock]
  obtain ⟨r0_0, r0_1, r0_2, r0_3⟩ := hs.g1.f4
  refine bodyPost_ret (v := (.tuple #[(.agg #[.bool false, .slice none 0 0, .bool n_o, .slice o_o k_o c_o]), (.int .i64 0)])) (by simp [results, Tryz.results20, go_sem, r0_0, r0_1, r0_2, r0_3]) rfl ?_
  have k6_8 := (ko hd7 ho7).o hd8 ho8
  replace o := o.k k6_8
  exact ⟨_, rfl, .mk' (zc_zero w_8) o, hs.b⟩
set_option maxHeartbeats 8000000 in
set_option maxRecDepth 20000 in
theorem parse_im_dp (w : World) (hsz : s.size ≤ 65536) (hc : CutIs s A D R) (hA : (A.toList == [43]) = false) (hR : (R.toList == [105]) = true) (hD : (D.toList == []) = false) (hM : (A.toList == [45]) = false) (hz : zok D = true) (hsz : D.size ≤ 65536) :
    Calls Tryz.prog 20 #[.string s] w fun e w' => ∃ r, e = .returned (.tuple #[r, .int .i64 0]) ∧ PC w' r 0 (zvl D) ∧ Below w.heap.size w w' := by
  have HC := hide hc
  have hsz' : (65536 < (s.size : Int)) = False := eq_false (by omega)
  have HZ := hide (And.intro hz hsz)
  have HL := hide (zvl_len hsz hz)
  clear hz
  clear hc
  go_enter Tryz.func20, Tryz.ntmps20
  have hs := St.nil w
  refine wp_seq_k ?_
  intro K1 hK1
  refine rg [0, 1] ?_
  refine sq ?_
  refine .al hs ?_; clear hs; intro p_b1 w_1 hs n1 kb_b1
  refine sq ?_
  refine .mv ?_
  apply wpSq_end
  refine hK1 _ _ ?_
  refine wp_scope_k 9 ?_
  intro S hSr hSn hSg
  refine wp_seq_k ?_
  intro K2 hK2
  refine wp_seq_k ?_
  intro K3 hK3
  refine rg [0, 1, 2] ?_
  refine sq ?_
  refine .mv ?_
  refine sq ?_
  refine .r0 ?_
  refine sq ?_
  refine .r0 ?_
  apply wpSq_end
  refine hK3 _ _ ?_
  refine cf ?_
  refine wp_skip ?_
  refine hK2 _ _ ?_
  refine wp_seq_k ?_
  intro K4 hK4
  refine rg [0] ?_
  refine sq ?_
  refine .al hs ?_; clear hs; intro p_b2 w_2 hs n2 kb_b2
  apply wpSq_end
  refine hK4 _ _ ?_
  refine wp_seq_k ?_
  intro K5 hK5
  refine rg [0] ?_
  refine sq ?_
  refine .mv ?_
  apply wpSq_end
  refine hK5 _ _ ?_
  refine wp_seq_k ?_
  intro K6 hK6
  refine rg [0, 1, 2, 3, 4, 5, 6, 7, 8] ?_
  refine sq ?_
  refine .mv ?_
  refine sq ?_
  intro K hK
  go_big_op
  go_fit (HC.out _)
  rintro e w_3 ⟨rfl, hb_3⟩
  replace hs := hs.bl hb_3
  refine hK _ _ rfl trivial ?_
  clear hK K
  refine sq ?_
  refine .mv ?_
  refine sq ?_
  refine .r0 ?_
  refine sq ?_
  refine .r0 ?_
  refine sq ?_
  refine .r0 ?_
  refine sq ?_
  refine .mv ?_
  refine sq ?_
  refine .mv ?_
  refine sq ?_
  refine .mv ?_
  apply wpSq_end
  refine hK6 _ _ ?_
  refine wp_seq_k ?_
  intro K7 hK7
  refine wp_seq_k ?_
  intro K8 hK8
  refine rg [0, 1] ?_
  refine sq ?_
  refine .mv ?_
  refine sq ?_
  refine .r0 ?_
  apply wpSq_end
  refine hK8 _ _ ?_
  refine cf ?_
  refine wp_skip ?_
  refine hK7 _ _ ?_
  refine wp_seq_k ?_
  intro K9 hK9
  refine wp_seq_k ?_
  intro K10 hK10
  refine rg [0, 1] ?_
  refine sq ?_
  refine .mv ?_
  refine sq ?_
  refine .r0 ?_
  apply wpSq_end
  refine hK10 _ _ ?_
  refine ct ?_
  refine wp_goto ?_
  refine hSg _ _ _ _ _ rfl ?_
  refine wp_seq_k ?_
  intro K11 hK11
  refine wp_skip ?_
  refine hK11 _ _ ?_
  refine wp_seq_k ?_
  intro K12 hK12
  refine wp_seq_k ?_
  intro K13 hK13
  refine rg [0, 1] ?_
  refine sq ?_
  refine .mv ?_
  refine sq ?_
  refine .r0 ?_
  apply wpSq_end
  refine hK13 _ _ ?_
  refine cf ?_
  refine wp_skip ?_
  refine hK12 _ _ ?_
  refine wp_seq_k ?_
  intro K14 hK14
  refine rg [0, 1, 2, 3, 4, 5, 6] ?_
  refine sq ?_
  refine .mv ?_
  refine sq ?_
  intro K hK
  go_big_op
  go_fit (zparse_ok D _ HZ.out.2 HZ.out.1)
  rintro e w_4 ⟨v_g, rfl, g, hb_4⟩
  replace hs := hs.bl hb_4
  obtain ⟨n_g, o_g, k_g, c_g, rfl⟩ := g.open2
  have Lg := hide (g.lenOf (HL.out))
  refine hK _ _ rfl trivial ?_
  clear hK K
  refine sq ?_
  refine .mv ?_
  refine sq ?_
  refine .r0 ?_
  refine sq ?_
  refine .r0 ?_
  refine sq ?_
  refine .r0 ?_
  refine sq ?_
  intro K hK
  have xs := hs.g0
  obtain ⟨d0, d1, d2, d3⟩ := hs.g0.f4
  have f0 := xs.free 2; have f1 := xs.free 3
  go_big_op
  have hd5 := xs.nod rfl rfl
  obtain ⟨w_5, eW, xs', ho5⟩ : ∃ w', ((w_4.setCell ⟨p_b2, 2, none⟩ (.bool n_g)).setCell ⟨p_b2, 3, none⟩ (.slice o_g k_g c_g)) = w' ∧ Bs w' p_b2 #[.bool false, .slice none 0 0, .bool n_g, .slice o_g k_g c_g] 29 ∧ Only p_b2 w_4 w' := xs.setN [(2, .bool n_g), (3, .slice o_g k_g c_g)]
  rw [eW]; clear eW d0 d1 d2 d3 f0 f1 xs
  replace hs := hs.u0 kb_b2 xs' ho5; clear xs'
  refine hK _ _ rfl trivial ?_; clear hK K
  apply wpSq_end
  refine hK14 _ _ ?_
  refine wp_seq_k ?_
  intro K15 hK15
  refine wp_seq_k ?_
  intro K16 hK16
  refine rg [0, 1] ?_
  refine sq ?_
  refine .mv ?_
  refine sq ?_
  refine .r0 ?_
  apply wpSq_end
  refine hK16 _ _ ?_
  refine cf ?_
  refine wp_skip ?_
  refine hK15 _ _ ?_
  refine wp_seq_k ?_
  intro K17 hK17
  refine wp_label ?_
  refine hK17 _ _ ?_
  refine wp_seq_k ?_
  intro K18 hK18
  refine wp_seq_k ?_
  intro K19 hK19
  refine rg [0, 1, 2] ?_
  refine sq ?_
  refine .r4 hs.g0.f4 ?_
  refine sq ?_
  refine .s4 hs.g1 (fun _ => hs.u1 kb_b1) ?_; clear hs; intro w_6 hs hd6 ho6
  refine sq ?_
  refine .mv ?_
  apply wpSq_end
  refine hK19 _ _ ?_
  refine wp_ret ?_
  refine hSr _ _ _ ?_
  try dsimp only [Exit.then, Exit.inBlock]
  obtain ⟨r0_0, r0_1, r0_2, r0_3⟩ := hs.g1.f4
  refine bodyPost_ret (v := (.tuple #[(.agg #[.bool false, .slice none 0 0, .bool n_g, .slice o_g k_g c_g]), (.int .i64 0)])) (by simp [results, Tryz.results20, go_sem, r0_0, r0_1, r0_2, r0_3]) rfl ?_
  have k4_6 := (ko hd5 ho5).o hd6 ho6
  replace g := g.k k4_6
  exact ⟨_, rfl, .mk' (zc_zero w_6) g, hs.b⟩
set_option maxHeartbeats 8000000 in
set_option maxRecDepth 20000 in
theorem parse_im_dm (w : World) (hsz : s.size ≤ 65536) (hc : CutIs s A D R) (hA : (A.toList == [43]) = false) (hR : (R.toList == [105]) = true) (hD : (D.toList == []) = false) (hM : (A.toList == [45]) = true) (hz : zok D = true) (hsz : D.size ≤ 65536) :
    Calls Tryz.prog 20 #[.string s] w fun e w' => ∃ r, e = .returned (.tuple #[r, .int .i64 0]) ∧ PC w' r 0 (-(zvl D)) ∧ Below w.heap.size w w' := by
  have HC := hide hc
  have hsz' : (65536 < (s.size : Int)) = False := eq_false (by omega)
  have HZ := hide (And.intro hz hsz)
  have HL := hide (zvl_len hsz hz)
  clear hz
  clear hc
  go_enter Tryz.func20, Tryz.ntmps20
  have hs := St.nil w
  refine wp_seq_k ?_
  intro K1 hK1
  refine rg [0, 1] ?_
  refine sq ?_
  refine .al hs ?_; clear hs; intro p_b1 w_1 hs n1 kb_b1
  refine sq ?_
  refine .mv ?_
  apply wpSq_end
  refine hK1 _ _ ?_
  refine wp_scope_k 9 ?_
  intro S hSr hSn hSg
  refine wp_seq_k ?_
  intro K2 hK2
  refine wp_seq_k ?_
  intro K3 hK3
  refine rg [0, 1, 2] ?_
  refine sq ?_
  refine .mv ?_
  refine sq ?_
  refine .r0 ?_
  refine sq ?_
  refine .r0 ?_
  apply wpSq_end
  refine hK3 _ _ ?_
  refine cf ?_
  refine wp_skip ?_
  refine hK2 _ _ ?_
  refine wp_seq_k ?_
  intro K4 hK4
  refine rg [0] ?_
  refine sq ?_
  refine .al hs ?_; clear hs; intro p_b2 w_2 hs n2 kb_b2
  apply wpSq_end
  refine hK4 _ _ ?_
  refine wp_seq_k ?_
  intro K5 hK5
  refine rg [0] ?_
  refine sq ?_
  refine .mv ?_
  apply wpSq_end
  refine hK5 _ _ ?_
  refine wp_seq_k ?_
  intro K6 hK6
  refine rg [0, 1, 2, 3, 4, 5, 6, 7, 8] ?_
  refine sq ?_
  refine .mv ?_
  refine sq ?_
  intro K hK
  go_big_op
  go_fit (HC.out _)
  rintro e w_3 ⟨rfl, hb_3⟩
  replace hs := hs.bl hb_3
  refine hK _ _ rfl trivial ?_
  clear hK K
  refine sq ?_
  refine .mv ?_
  refine sq ?_
  refine .r0 ?_
  refine sq ?_
  refine .r0 ?_
  refine sq ?_
  refine .r0 ?_
  refine sq ?_
  refine .mv ?_
  refine sq ?_
  refine .mv ?_
  refine sq ?_
  refine .mv ?_
  apply wpSq_end
  refine hK6 _ _ ?_
  refine wp_seq_k ?_
  intro K7 hK7
  refine wp_seq_k ?_
  intro K8 hK8
  refine rg [0, 1] ?_
  refine sq ?_
  refine .mv ?_
  refine sq ?_
  refine .r0 ?_
  apply wpSq_end
  refine hK8 _ _ ?_
  refine cf ?_
  refine wp_skip ?_
  refine hK7 _ _ ?_
  refine wp_seq_k ?_
  intro K9 hK9
  refine wp_seq_k ?_
  intro K10 hK10
  refine rg [0, 1] ?_
  refine sq ?_
  refine .mv ?_
  refine sq ?_
  refine .r0 ?_
  apply wpSq_end
  refine hK10 _ _ ?_
  refine ct ?_
  refine wp_goto ?_
  refine hSg _ _ _ _ _ rfl ?_
  refine wp_seq_k ?_
  intro K11 hK11
  refine wp_skip ?_
  refine hK11 _ _ ?_
  refine wp_seq_k ?_
  intro K12 hK12
  refine wp_seq_k ?_
  intro K13 hK13
  refine rg [0, 1] ?_
  refine sq ?_
  refine .mv ?_
  refine sq ?_
  refine .r0 ?_
  apply wpSq_end
  refine hK13 _ _ ?_
  refine cf ?_
  refine wp_skip ?_
  refine hK12 _ _ ?_
  refine wp_seq_k ?_
  intro K14 hK14
  refine rg [0, 1, 2, 3, 4, 5, 6] ?_
  refine sq ?_
  refine .mv ?_
  refine sq ?_
  intro K hK
  go_big_op
  go_fit (zparse_ok D _ HZ.out.2 HZ.out.1)
  rintro e w_4 ⟨v_g, rfl, g, hb_4⟩
  replace hs := hs.bl hb_4
  obtain ⟨n_g, o_g, k_g, c_g, rfl⟩ := g.open2
  have Lg := hide (g.lenOf (HL.out))
  refine hK _ _ rfl trivial ?_
  clear hK K
  refine sq ?_
  refine .mv ?_
  refine sq ?_
  refine .r0 ?_
  refine sq ?_
  refine .r0 ?_
  refine sq ?_
  refine .r0 ?_
  refine sq ?_
  intro K hK
  have xs := hs.g0
  obtain ⟨d0, d1, d2, d3⟩ := hs.g0.f4
  have f0 := xs.free 2; have f1 := xs.free 3
  go_big_op
  have hd5 := xs.nod rfl rfl
  obtain ⟨w_5, eW, xs', ho5⟩ : ∃ w', ((w_4.setCell ⟨p_b2, 2, none⟩ (.bool n_g)).setCell ⟨p_b2, 3, none⟩ (.slice o_g k_g c_g)) = w' ∧ Bs w' p_b2 #[.bool false, .slice none 0 0, .bool n_g, .slice o_g k_g c_g] 29 ∧ Only p_b2 w_4 w' := xs.setN [(2, .bool n_g), (3, .slice o_g k_g c_g)]
  rw [eW]; clear eW d0 d1 d2 d3 f0 f1 xs
  replace hs := hs.u0 kb_b2 xs' ho5; clear xs'
  refine hK _ _ rfl trivial ?_; clear hK K
  apply wpSq_end
  refine hK14 _ _ ?_
  refine wp_seq_k ?_
  intro K15 hK15
  refine wp_seq_k ?_
  intro K16 hK16
  refine rg [0, 1] ?_
  refine sq ?_
  refine .mv ?_
  refine sq ?_
  refine .r0 ?_
  apply wpSq_end
  refine hK16 _ _ ?_
  refine ct ?_
  refine rg [0, 1, 2, 3, 4] ?_
  refine sq ?_
  refine .r0 ?_
  refine sq ?_
  refine .r4 hs.g0.f4 ?_
  refine sq ?_
  intro K hK
  have k4_5 := ko hd5 ho5
  replace g := g.k k4_5
  go_big_op
  go_fit (zneg_any (g.zn Lg.out) (by omega) )
  rintro e w_6 ⟨v_o, rfl, o, hb_6⟩
  replace hs := hs.bl hb_6
  replace o := o.rd
  obtain ⟨n_o, o_o, k_o, c_o, rfl⟩ := o.open2
  have Lo := hide (o.lenOf (zlen_neg (Lg.out)))
  refine hK _ _ rfl trivial ?_
  clear hK K
  refine sq ?_
  refine .r0 ?_
  refine sq ?_
  intro K hK
  have xs := hs.g0
  obtain ⟨d0, d1, d2, d3⟩ := hs.g0.f4
  have f0 := xs.free 2; have f1 := xs.free 3
  go_big_op
  have hd7 := xs.nod rfl rfl
  obtain ⟨w_7, eW, xs', ho7⟩ : ∃ w', ((w_6.setCell ⟨p_b2, 2, none⟩ (.bool n_o)).setCell ⟨p_b2, 3, none⟩ (.slice o_o k_o c_o)) = w' ∧ Bs w' p_b2 #[.bool false, .slice none 0 0, .bool n_o, .slice o_o k_o c_o] 29 ∧ Only p_b2 w_6 w' := xs.setN [(2, .bool n_o), (3, .slice o_o k_o c_o)]
  rw [eW]; clear eW d0 d1 d2 d3 f0 f1 xs
  replace hs := hs.u0 kb_b2 xs' ho7; clear xs'
  refine hK _ _ rfl trivial ?_; clear hK K
  apply wpSq_end
  refine hK15 _ _ ?_
  refine wp_seq_k ?_
  intro K17 hK17
  refine wp_label ?_
  refine hK17 _ _ ?_
  refine wp_seq_k ?_
  intro K18 hK18
  refine wp_seq_k ?_
  intro K19 hK19
  refine rg [0, 1, 2] ?_
  refine sq ?_
  refine .r4 hs.g0.f4 ?_
  refine sq ?_
  refine .s4 hs.g1 (fun _ => hs.u1 kb_b1) ?_; clear hs; intro w_8 hs hd8 ho8
  refine sq ?_
  refine .mv ?_
  apply wpSq_end
  refine hK19 _ _ ?_
  refine wp_ret ?_
  refine hSr _ _ _ ?_
  try dsimp only [Exit.then, Exit.inBlock]
  obtain ⟨r0_0, r0_1, r0_2, r0_3⟩ := hs.g1.f4
  refine bodyPost_ret (v := (.tuple #[(.agg #[.bool false, .slice none 0 0, .bool n_o, .slice o_o k_o c_o]), (.int .i64 0)])) (by simp [results, Tryz.results20, go_sem, r0_0, r0_1, r0_2, r0_3]) rfl ?_
  have k6_8 := (ko hd7 ho7).o hd8 ho8
  replace o := o.k k6_8
  exact ⟨_, rfl, .mk' (zc_zero w_8) o, hs.b⟩
set_option maxHeartbeats 8000000 in
set_option maxRecDepth 20000 in
theorem parse_both_ep (w : World) (hsz : s.size ≤ 65536) (hc : CutIs s A D R) (hA : (A.toList == [43]) = false) (hR : (R.toList == [105]) = false) (hR0 : (R.toList == []) = false) (hz0 : zok (A ++ D) = true) (hAD : (A ++ D).size ≤ 65536) (hc2 : CutIs R A2 D2 R2) (hR2 : (R2.toList == [105]) = true) (hD : (D2.toList == []) = true) (hM : (A2.toList == [45]) = false) :
    Calls Tryz.prog 20 #[.string s] w fun e w' => ∃ r, e = .returned (.tuple #[r, .int .i64 0]) ∧ PC w' r (zvl (A ++ D)) (1) ∧ Below w.heap.size w w' := by
  have HC := hide hc
  have hsz' : (65536 < (s.size : Int)) = False := eq_false (by omega)
  have HC2 := hide hc2
  have HZ0 := hide (And.intro hz0 hAD)
  have HL0 := hide (zvl_len hAD hz0)
  have hsz0 : A.size + D.size ≤ 65536 := by rw [← ByteArray.size_append]; exact hAD
  clear hz0 hc2
  have H1 := hide (And.intro (show zok ⟨#[49]⟩ = true by kernel_rfl) (show zvl ⟨#[49]⟩ = 1 by kernel_rfl))
  clear hc
  go_enter Tryz.func20, Tryz.ntmps20
  have hs := St.nil w
  refine wp_seq_k ?_
  intro K1 hK1
  refine rg [0, 1] ?_
  refine sq ?_
  refine .al hs ?_; clear hs; intro p_b1 w_1 hs n1 kb_b1
  refine sq ?_
  refine .mv ?_
  apply wpSq_end
  refine hK1 _ _ ?_
  refine wp_scope_k 9 ?_
  intro S hSr hSn hSg
  refine wp_seq_k ?_
  intro K2 hK2
  refine wp_seq_k ?_
  intro K3 hK3
  refine rg [0, 1, 2] ?_
  refine sq ?_
  refine .mv ?_
  refine sq ?_
  refine .r0 ?_
  refine sq ?_
  refine .r0 ?_
  apply wpSq_end
  refine hK3 _ _ ?_
  refine cf ?_
  refine wp_skip ?_
  refine hK2 _ _ ?_
  refine wp_seq_k ?_
  intro K4 hK4
  refine rg [0] ?_
  refine sq ?_
  refine .al hs ?_; clear hs; intro p_b2 w_2 hs n2 kb_b2
  apply wpSq_end
  refine hK4 _ _ ?_
  refine wp_seq_k ?_
  intro K5 hK5
  refine rg [0] ?_
  refine sq ?_
  refine .mv ?_
  apply wpSq_end
  refine hK5 _ _ ?_
  refine wp_seq_k ?_
  intro K6 hK6
  refine rg [0, 1, 2, 3, 4, 5, 6, 7, 8] ?_
  refine sq ?_
  refine .mv ?_
  refine sq ?_
  intro K hK
  go_big_op
  go_fit (HC.out _)
  rintro e w_3 ⟨rfl, hb_3⟩
  replace hs := hs.bl hb_3
  refine hK _ _ rfl trivial ?_
  clear hK K
  refine sq ?_
  refine .mv ?_
  refine sq ?_
  refine .r0 ?_
  refine sq ?_
  refine .r0 ?_
  refine sq ?_
  refine .r0 ?_
  refine sq ?_
  refine .mv ?_
  refine sq ?_
  refine .mv ?_
  refine sq ?_
  refine .mv ?_
  apply wpSq_end
  refine hK6 _ _ ?_
  refine wp_seq_k ?_
  intro K7 hK7
  refine wp_seq_k ?_
  intro K8 hK8
  refine rg [0, 1] ?_
  refine sq ?_
  refine .mv ?_
  refine sq ?_
  refine .r0 ?_
  apply wpSq_end
  refine hK8 _ _ ?_
  refine cf ?_
  refine wp_skip ?_
  refine hK7 _ _ ?_
  refine wp_seq_k ?_
  intro K9 hK9
  refine wp_seq_k ?_
  intro K10 hK10
  refine rg [0, 1] ?_
  refine sq ?_
  refine .mv ?_
  refine sq ?_
  refine .r0 ?_
  apply wpSq_end
  refine hK10 _ _ ?_
  refine cf ?_
  refine wp_skip ?_
  refine hK9 _ _ ?_
  refine wp_seq_k ?_
  intro K11 hK11
  refine rg [0, 1, 2, 3, 4, 5, 6, 7, 8, 9] ?_
  refine sq ?_
  refine .mv ?_
  refine sq ?_
  refine .mv ?_
  refine sq ?_
  refine .r0 ?_
  refine sq ?_
  intro K hK
  go_big_op
  go_fit (zparse_ok (A ++ D) _ HZ0.out.2 HZ0.out.1)
  rintro e w_4 ⟨v_r, rfl, r, hb_4⟩
  replace hs := hs.bl hb_4
  obtain ⟨n_r, o_r, k_r, c_r, rfl⟩ := r.open2
  have Lr := hide (r.lenOf (HL0.out))
  refine hK _ _ rfl trivial ?_
  clear hK K
  refine sq ?_
  refine .mv ?_
  refine sq ?_
  refine .r0 ?_
  refine sq ?_
  refine .r0 ?_
  refine sq ?_
  refine .r0 ?_
  refine sq ?_
  intro K hK
  have xs := hs.g0
  obtain ⟨d0, d1, d2, d3⟩ := hs.g0.f4
  have f0 := xs.free 0; have f1 := xs.free 1
  go_big_op
  have hd5 := xs.nod rfl rfl
  obtain ⟨w_5, eW, xs', ho5⟩ : ∃ w', ((w_4.setCell ⟨p_b2, 0, none⟩ (.bool n_r)).setCell ⟨p_b2, 1, none⟩ (.slice o_r k_r c_r)) = w' ∧ Bs w' p_b2 #[.bool n_r, .slice o_r k_r c_r, .bool false, .slice none 0 0] 29 ∧ Only p_b2 w_4 w' := xs.setN [(0, .bool n_r), (1, .slice o_r k_r c_r)]
  rw [eW]; clear eW d0 d1 d2 d3 f0 f1 xs
  replace hs := hs.u0 kb_b2 xs' ho5; clear xs'
  refine hK _ _ rfl trivial ?_; clear hK K
  refine sq ?_
  refine .mv ?_
  apply wpSq_end
  refine hK11 _ _ ?_
  refine wp_seq_k ?_
  intro K12 hK12
  refine wp_seq_k ?_
  intro K13 hK13
  refine rg [0, 1] ?_
  refine sq ?_
  refine .mv ?_
  refine sq ?_
  refine .r0 ?_
  apply wpSq_end
  refine hK13 _ _ ?_
  refine cf ?_
  refine wp_skip ?_
  refine hK12 _ _ ?_
  refine wp_seq_k ?_
  intro K14 hK14
  refine wp_seq_k ?_
  intro K15 hK15
  refine rg [0, 1] ?_
  refine sq ?_
  refine .mv ?_
  refine sq ?_
  refine .r0 ?_
  apply wpSq_end
  refine hK15 _ _ ?_
  refine cf ?_
  refine wp_skip ?_
  refine hK14 _ _ ?_
  refine wp_seq_k ?_
  intro K16 hK16
  refine rg [0, 1, 2, 3, 4, 5, 6, 7, 8] ?_
  refine sq ?_
  refine .mv ?_
  refine sq ?_
  intro K hK
  go_big_op
  go_fit (HC2.out _)
  rintro e w_6 ⟨rfl, hb_6⟩
  replace hs := hs.bl hb_6
  refine hK _ _ rfl trivial ?_
  clear hK K
  refine sq ?_
  refine .mv ?_
  refine sq ?_
  refine .r0 ?_
  refine sq ?_
  refine .r0 ?_
  refine sq ?_
  refine .r0 ?_
  refine sq ?_
  refine .mv ?_
  refine sq ?_
  refine .mv ?_
  refine sq ?_
  refine .mv ?_
  apply wpSq_end
  refine hK16 _ _ ?_
  refine wp_seq_k ?_
  intro K17 hK17
  refine wp_seq_k ?_
  intro K18 hK18
  refine rg [0, 1] ?_
  refine sq ?_
  refine .mv ?_
  refine sq ?_
  refine .r0 ?_
  apply wpSq_end
  refine hK18 _ _ ?_
  refine cf ?_
  refine wp_skip ?_
  refine hK17 _ _ ?_
  refine wp_seq_k ?_
  intro K19 hK19
  refine wp_label ?_
  refine hK19 _ _ ?_
  refine wp_seq_k ?_
  intro K20 hK20
  refine wp_seq_k ?_
  intro K21 hK21
  refine rg [0, 1] ?_
  refine sq ?_
  refine .mv ?_
  refine sq ?_
  refine .r0 ?_
  apply wpSq_end
  refine hK21 _ _ ?_
  refine ct ?_
  refine rg [0] ?_
  refine sq ?_
  refine .mv ?_
  apply wpSq_end
  refine hK20 _ _ ?_
  refine wp_seq_k ?_
  intro K22 hK22
  refine rg [0, 1, 2, 3, 4, 5, 6] ?_
  refine sq ?_
  refine .mv ?_
  refine sq ?_
  intro K hK
  go_big_op
  go_fit (zparse_ok ⟨#[49]⟩ _ (by decide) H1.out.1)
  rintro e w_7 ⟨v_g, rfl, g, hb_7⟩
  replace hs := hs.bl hb_7
  obtain ⟨n_g, o_g, k_g, c_g, rfl⟩ := g.open2
  rw [H1.out.2] at g
  refine hK _ _ rfl trivial ?_
  clear hK K
  refine sq ?_
  refine .mv ?_
  refine sq ?_
  refine .r0 ?_
  refine sq ?_
  refine .r0 ?_
  refine sq ?_
  refine .r0 ?_
  refine sq ?_
  intro K hK
  have xs := hs.g0
  obtain ⟨d0, d1, d2, d3⟩ := hs.g0.f4
  have f0 := xs.free 2; have f1 := xs.free 3
  go_big_op
  have hd8 := xs.nod rfl rfl
  obtain ⟨w_8, eW, xs', ho8⟩ : ∃ w', ((w_7.setCell ⟨p_b2, 2, none⟩ (.bool n_g)).setCell ⟨p_b2, 3, none⟩ (.slice o_g k_g c_g)) = w' ∧ Bs w' p_b2 #[.bool n_r, .slice o_r k_r c_r, .bool n_g, .slice o_g k_g c_g] 29 ∧ Only p_b2 w_7 w' := xs.setN [(2, .bool n_g), (3, .slice o_g k_g c_g)]
  rw [eW]; clear eW d0 d1 d2 d3 f0 f1 xs
  replace hs := hs.u0 kb_b2 xs' ho8; clear xs'
  refine hK _ _ rfl trivial ?_; clear hK K
  apply wpSq_end
  refine hK22 _ _ ?_
  refine wp_seq_k ?_
  intro K23 hK23
  refine wp_seq_k ?_
  intro K24 hK24
  refine rg [0, 1] ?_
  refine sq ?_
  refine .mv ?_
  refine sq ?_
  refine .r0 ?_
  apply wpSq_end
  refine hK24 _ _ ?_
  have Lg := hide (show (dig (Int.natAbs 1)).length ≤ 1 by decide)
  refine cf ?_
  refine wp_skip ?_
  refine hK23 _ _ ?_
  refine wp_seq_k ?_
  intro K25 hK25
  refine wp_label ?_
  refine hK25 _ _ ?_
  refine wp_seq_k ?_
  intro K26 hK26
  refine wp_seq_k ?_
  intro K27 hK27
  refine rg [0, 1, 2] ?_
  refine sq ?_
  refine .r4 hs.g0.f4 ?_
  refine sq ?_
  refine .s4 hs.g1 (fun _ => hs.u1 kb_b1) ?_; clear hs; intro w_9 hs hd9 ho9
  refine sq ?_
  refine .mv ?_
  apply wpSq_end
  refine hK27 _ _ ?_
  refine wp_ret ?_
  refine hSr _ _ _ ?_
  try dsimp only [Exit.then, Exit.inBlock]
  obtain ⟨r0_0, r0_1, r0_2, r0_3⟩ := hs.g1.f4
  refine bodyPost_ret (v := (.tuple #[(.agg #[.bool n_r, .slice o_r k_r c_r, .bool n_g, .slice o_g k_g c_g]), (.int .i64 0)])) (by simp [results, Tryz.results20, go_sem, r0_0, r0_1, r0_2, r0_3]) rfl ?_
  have k4_9 := ((((ko hd5 ho5).b hb_6).b hb_7).o hd8 ho8).o hd9 ho9
  replace r := r.k k4_9
  have k7_9 := (ko hd8 ho8).o hd9 ho9
  replace g := g.k k7_9
  exact ⟨_, rfl, .mk' r g, hs.b⟩
set_option maxHeartbeats 8000000 in
set_option maxRecDepth 20000 in
theorem parse_both_em (w : World) (hsz : s.size ≤ 65536) (hc : CutIs s A D R) (hA : (A.toList == [43]) = false) (hR : (R.toList == [105]) = false) (hR0 : (R.toList == []) = false) (hz0 : zok (A ++ D) = true) (hAD : (A ++ D).size ≤ 65536) (hc2 : CutIs R A2 D2 R2) (hR2 : (R2.toList == [105]) = true) (hD : (D2.toList == []) = true) (hM : (A2.toList == [45]) = true) :
    Calls Tryz.prog 20 #[.string s] w fun e w' => ∃ r, e = .returned (.tuple #[r, .int .i64 0]) ∧ PC w' r (zvl (A ++ D)) (-1) ∧ Below w.heap.size w w' := by
  have HC := hide hc
  have hsz' : (65536 < (s.size : Int)) = False := eq_false (by omega)
  have HC2 := hide hc2
  have HZ0 := hide (And.intro hz0 hAD)
  have HL0 := hide (zvl_len hAD hz0)
  have hsz0 : A.size + D.size ≤ 65536 := by rw [← ByteArray.size_append]; exact hAD
  clear hz0 hc2
  have H1 := hide (And.intro (show zok ⟨#[49]⟩ = true by kernel_rfl) (show zvl ⟨#[49]⟩ = 1 by kernel_rfl))
  clear hc
  go_enter Tryz.func20, Tryz.ntmps20
  have hs := St.nil w
  refine wp_seq_k ?_
  intro K1 hK1
  refine rg [0, 1] ?_
  refine sq ?_
  refine .al hs ?_; clear hs; intro p_b1 w_1 hs n1 kb_b1
  refine sq ?_
  refine .mv ?_
  apply wpSq_end
  refine hK1 _ _ ?_
  refine wp_scope_k 9 ?_
  intro S hSr hSn hSg
  refine wp_seq_k ?_
  intro K2 hK2
  refine wp_seq_k ?_
  intro K3 hK3
  refine rg [0, 1, 2] ?_
  refine sq ?_
  refine .mv ?_
  refine sq ?_
  refine .r0 ?_
  refine sq ?_
  refine .r0 ?_
  apply wpSq_end
  refine hK3 _ _ ?_
  refine cf ?_
  refine wp_skip ?_
  refine hK2 _ _ ?_
  refine wp_seq_k ?_
  intro K4 hK4
  refine rg [0] ?_
  refine sq ?_
  refine .al hs ?_; clear hs; intro p_b2 w_2 hs n2 kb_b2
  apply wpSq_end
  refine hK4 _ _ ?_
  refine wp_seq_k ?_
  intro K5 hK5
  refine rg [0] ?_
  refine sq ?_
  refine .mv ?_
  apply wpSq_end
  refine hK5 _ _ ?_
  refine wp_seq_k ?_
  intro K6 hK6
  refine rg [0, 1, 2, 3, 4, 5, 6, 7, 8] ?_
  refine sq ?_
  refine .mv ?_
  refine sq ?_
  intro K hK
  go_big_op
  go_fit (HC.out _)
  rintro e w_3 ⟨rfl, hb_3⟩
  replace hs := hs.bl hb_3
  refine hK _ _ rfl trivial ?_
  clear hK K
  refine sq ?_
  refine .mv ?_
  refine sq ?_
  refine .r0 ?_
  refine sq ?_
  refine .r0 ?_
  refine sq ?_
  refine .r0 ?_
  refine sq ?_
  refine .mv ?_
  refine sq ?_
  refine .mv ?_
  refine sq ?_
  refine .mv ?_
  apply wpSq_end
  refine hK6 _ _ ?_
  refine wp_seq_k ?_
  intro K7 hK7
  refine wp_seq_k ?_
  intro K8 hK8
  refine rg [0, 1] ?_
  refine sq ?_
  refine .mv ?_
  refine sq ?_
  refine .r0 ?_
  apply wpSq_end
  refine hK8 _ _ ?_
  refine cf ?_
  refine wp_skip ?_
  refine hK7 _ _ ?_
  refine wp_seq_k ?_
  intro K9 hK9
  refine wp_seq_k ?_
  intro K10 hK10
  refine rg [0, 1] ?_
  refine sq ?_
  refine .mv ?_
  refine sq ?_
  refine .r0 ?_
  apply wpSq_end
  refine hK10 _ _ ?_
  refine cf ?_
  refine wp_skip ?_
  refine hK9 _ _ ?_
  refine wp_seq_k ?_
  intro K11 hK11
  refine rg [0, 1, 2, 3, 4, 5, 6, 7, 8, 9] ?_
  refine sq ?_
  refine .mv ?_
  refine sq ?_
  refine .mv ?_
  refine sq ?_
  refine .r0 ?_
  refine sq ?_
  intro K hK
  go_big_op
  go_fit (zparse_ok (A ++ D) _ HZ0.out.2 HZ0.out.1)
  rintro e w_4 ⟨v_r, rfl, r, hb_4⟩
  replace hs := hs.bl hb_4
  obtain ⟨n_r, o_r, k_r, c_r, rfl⟩ := r.open2
  have Lr := hide (r.lenOf (HL0.out))
  refine hK _ _ rfl trivial ?_
  clear hK K
  refine sq ?_
  refine .mv ?_
  refine sq ?_
  refine .r0 ?_
  refine sq ?_
  refine .r0 ?_
  refine sq ?_
  refine .r0 ?_
  refine sq ?_
  intro K hK
  have xs := hs.g0
  obtain ⟨d0, d1, d2, d3⟩ := hs.g0.f4
  have f0 := xs.free 0; have f1 := xs.free 1
  go_big_op
  have hd5 := xs.nod rfl rfl
  obtain ⟨w_5, eW, xs', ho5⟩ : ∃ w', ((w_4.setCell ⟨p_b2, 0, none⟩ (.bool n_r)).setCell ⟨p_b2, 1, none⟩ (.slice o_r k_r c_r)) = w' ∧ Bs w' p_b2 #[.bool n_r, .slice o_r k_r c_r, .bool false, .slice none 0 0] 29 ∧ Only p_b2 w_4 w' := xs.setN [(0, .bool n_r), (1, .slice o_r k_r c_r)]
  rw [eW]; clear eW d0 d1 d2 d3 f0 f1 xs
  replace hs := hs.u0 kb_b2 xs' ho5; clear xs'
  refine hK _ _ rfl trivial ?_; clear hK K
  refine sq ?_
  refine .mv ?_
  apply wpSq_end
  refine hK11 _ _ ?_
  refine wp_seq_k ?_
  intro K12 hK12
  refine wp_seq_k ?_
  intro K13 hK13
  refine rg [0, 1] ?_
  refine sq ?_
  refine .mv ?_
  refine sq ?_
  refine .r0 ?_
  apply wpSq_end
  refine hK13 _ _ ?_
  refine cf ?_
  refine wp_skip ?_
  refine hK12 _ _ ?_
  refine wp_seq_k ?_
  intro K14 hK14
  refine wp_seq_k ?_
  intro K15 hK15
  refine rg [0, 1] ?_
  refine sq ?_
  refine .mv ?_
  refine sq ?_
  refine .r0 ?_
  apply wpSq_end
  refine hK15 _ _ ?_
  refine cf ?_
  refine wp_skip ?_
  refine hK14 _ _ ?_
  refine wp_seq_k ?_
  intro K16 hK16
  refine rg [0, 1, 2, 3, 4, 5, 6, 7, 8] ?_
  refine sq ?_
  refine .mv ?_
  refine sq ?_
  intro K hK
  go_big_op
  go_fit (HC2.out _)
  rintro e w_6 ⟨rfl, hb_6⟩
  replace hs := hs.bl hb_6
  refine hK _ _ rfl trivial ?_
  clear hK K
  refine sq ?_
  refine .mv ?_
  refine sq ?_
  refine .r0 ?_
  refine sq ?_
  refine .r0 ?_
  refine sq ?_
  refine .r0 ?_
  refine sq ?_
  refine .mv ?_
  refine sq ?_
  refine .mv ?_
  refine sq ?_
  refine .mv ?_
  apply wpSq_end
  refine hK16 _ _ ?_
  refine wp_seq_k ?_
  intro K17 hK17
  refine wp_seq_k ?_
  intro K18 hK18
  refine rg [0, 1] ?_
  refine sq ?_
  refine .mv ?_
  refine sq ?_
  refine .r0 ?_
  apply wpSq_end
  refine hK18 _ _ ?_
  refine cf ?_
  refine wp_skip ?_
  refine hK17 _ _ ?_
  refine wp_seq_k ?_
  intro K19 hK19
  refine wp_label ?_
  refine hK19 _ _ ?_
  refine wp_seq_k ?_
  intro K20 hK20
  refine wp_seq_k ?_
  intro K21 hK21
  refine rg [0, 1] ?_
  refine sq ?_
  refine .mv ?_
  refine sq ?_
  refine .r0 ?_
  apply wpSq_end
  refine hK21 _ _ ?_
  refine ct ?_
  refine rg [0] ?_
  refine sq ?_
  refine .mv ?_
  apply wpSq_end
  refine hK20 _ _ ?_
  refine wp_seq_k ?_
  intro K22 hK22
  refine rg [0, 1, 2, 3, 4, 5, 6] ?_
  refine sq ?_
  refine .mv ?_
  refine sq ?_
  intro K hK
  go_big_op
  go_fit (zparse_ok ⟨#[49]⟩ _ (by decide) H1.out.1)
  rintro e w_7 ⟨v_g, rfl, g, hb_7⟩
  replace hs := hs.bl hb_7
  obtain ⟨n_g, o_g, k_g, c_g, rfl⟩ := g.open2
  rw [H1.out.2] at g
  refine hK _ _ rfl trivial ?_
  clear hK K
  refine sq ?_
  refine .mv ?_
  refine sq ?_
  refine .r0 ?_
  refine sq ?_
  refine .r0 ?_
  refine sq ?_
  refine .r0 ?_
  refine sq ?_
  intro K hK
  have xs := hs.g0
  obtain ⟨d0, d1, d2, d3⟩ := hs.g0.f4
  have f0 := xs.free 2; have f1 := xs.free 3
  go_big_op
  have hd8 := xs.nod rfl rfl
  obtain ⟨w_8, eW, xs', ho8⟩ : ∃ w', ((w_7.setCell ⟨p_b2, 2, none⟩ (.bool n_g)).setCell ⟨p_b2, 3, none⟩ (.slice o_g k_g c_g)) = w' ∧ Bs w' p_b2 #[.bool n_r, .slice o_r k_r c_r, .bool n_g, .slice o_g k_g c_g] 29 ∧ Only p_b2 w_7 w' := xs.setN [(2, .bool n_g), (3, .slice o_g k_g c_g)]
  rw [eW]; clear eW d0 d1 d2 d3 f0 f1 xs
  replace hs := hs.u0 kb_b2 xs' ho8; clear xs'
  refine hK _ _ rfl trivial ?_; clear hK K
  apply wpSq_end
  refine hK22 _ _ ?_
  refine wp_seq_k ?_
  intro K23 hK23
  refine wp_seq_k ?_
  intro K24 hK24
  refine rg [0, 1] ?_
  refine sq ?_
  refine .mv ?_
  refine sq ?_
  refine .r0 ?_
  apply wpSq_end
  refine hK24 _ _ ?_
  have Lg := hide (show (dig (Int.natAbs 1)).length ≤ 1 by decide)
  refine ct ?_
  refine rg [0, 1, 2, 3, 4] ?_
  refine sq ?_
  refine .r0 ?_
  refine sq ?_
  refine .r4 hs.g0.f4 ?_
  refine sq ?_
  intro K hK
  have k7_8 := ko hd8 ho8
  replace g := g.k k7_8
  go_big_op
  go_fit (zneg_any (g.zn Lg.out) (by omega) )
  rintro e w_9 ⟨v_o, rfl, o, hb_9⟩
  replace hs := hs.bl hb_9
  replace o := o.rd
  obtain ⟨n_o, o_o, k_o, c_o, rfl⟩ := o.open2
  have Lo := hide (o.lenOf (zlen_neg (Lg.out)))
  refine hK _ _ rfl trivial ?_
  clear hK K
  refine sq ?_
  refine .r0 ?_
  refine sq ?_
  intro K hK
  have xs := hs.g0
  obtain ⟨d0, d1, d2, d3⟩ := hs.g0.f4
  have f0 := xs.free 2; have f1 := xs.free 3
  go_big_op
  have hd10 := xs.nod rfl rfl
  obtain ⟨w_10, eW, xs', ho10⟩ : ∃ w', ((w_9.setCell ⟨p_b2, 2, none⟩ (.bool n_o)).setCell ⟨p_b2, 3, none⟩ (.slice o_o k_o c_o)) = w' ∧ Bs w' p_b2 #[.bool n_r, .slice o_r k_r c_r, .bool n_o, .slice o_o k_o c_o] 29 ∧ Only p_b2 w_9 w' := xs.setN [(2, .bool n_o), (3, .slice o_o k_o c_o)]
  rw [eW]; clear eW d0 d1 d2 d3 f0 f1 xs
  replace hs := hs.u0 kb_b2 xs' ho10; clear xs'
  refine hK _ _ rfl trivial ?_; clear hK K
  apply wpSq_end
  refine hK23 _ _ ?_
  refine wp_seq_k ?_
  intro K25 hK25
  refine wp_label ?_
  refine hK25 _ _ ?_
  refine wp_seq_k ?_
  intro K26 hK26
  refine wp_seq_k ?_
  intro K27 hK27
  refine rg [0, 1, 2] ?_
  refine sq ?_
  refine .r4 hs.g0.f4 ?_
  refine sq ?_
  refine .s4 hs.g1 (fun _ => hs.u1 kb_b1) ?_; clear hs; intro w_11 hs hd11 ho11
  refine sq ?_
  refine .mv ?_
  apply wpSq_end
  refine hK27 _ _ ?_
  refine wp_ret ?_
  refine hSr _ _ _ ?_
  try dsimp only [Exit.then, Exit.inBlock]
  obtain ⟨r0_0, r0_1, r0_2, r0_3⟩ := hs.g1.f4
  refine bodyPost_ret (v := (.tuple #[(.agg #[.bool n_r, .slice o_r k_r c_r, .bool n_o, .slice o_o k_o c_o]), (.int .i64 0)])) (by simp [results, Tryz.results20, go_sem, r0_0, r0_1, r0_2, r0_3]) rfl ?_
  have k4_11 := ((((((ko hd5 ho5).b hb_6).b hb_7).o hd8 ho8).b hb_9).o hd10 ho10).o hd11 ho11
  replace r := r.k k4_11
  have k9_11 := (ko hd10 ho10).o hd11 ho11
  replace o := o.k k9_11
  exact ⟨_, rfl, .mk' r o, hs.b⟩
set_option maxHeartbeats 8000000 in
set_option maxRecDepth 20000 in
theorem parse_both_dp (w : World) (hsz : s.size ≤ 65536) (hc : CutIs s A D R) (hA : (A.toList == [43]) = false) (hR : (R.toList == [105]) = false) (hR0 : (R.toList == []) = false) (hz0 : zok (A ++ D) = true) (hAD : (A ++ D).size ≤ 65536) (hc2 : CutIs R A2 D2 R2) (hR2 : (R2.toList == [105]) = true) (hD : (D2.toList == []) = false) (hM : (A2.toList == [45]) = false) (hz : zok D2 = true) (hsz : D2.size ≤ 65536) :
    Calls Tryz.prog 20 #[.string s] w fun e w' => ∃ r, e = .returned (.tuple #[r, .int .i64 0]) ∧ PC w' r (zvl (A ++ D)) (zvl D2) ∧ Below w.heap.size w w' := by
  have HC := hide hc
  have hsz' : (65536 < (s.size : Int)) = False := eq_false (by omega)
  have HC2 := hide hc2
  have HZ0 := hide (And.intro hz0 hAD)
  have HL0 := hide (zvl_len hAD hz0)
  have hsz0 : A.size + D.size ≤ 65536 := by rw [← ByteArray.size_append]; exact hAD
  clear hz0 hc2
  have HZ := hide (And.intro hz hsz)
  have HL := hide (zvl_len hsz hz)
  clear hz
  clear hc
  go_enter Tryz.func20, Tryz.ntmps20
  have hs := St.nil w
  refine wp_seq_k ?_
  intro K1 hK1
  refine rg [0, 1] ?_
  refine sq ?_
  refine .al hs ?_; clear hs; intro p_b1 w_1 hs n1 kb_b1
  refine sq ?_
  refine .mv ?_
  apply wpSq_end
  refine hK1 _ _ ?_
  refine wp_scope_k 9 ?_
  intro S hSr hSn hSg
  refine wp_seq_k ?_
  intro K2 hK2
  refine wp_seq_k ?_
  intro K3 hK3
  refine rg [0, 1, 2] ?_
  refine sq ?_
  refine .mv ?_
  refine sq ?_
  refine .r0 ?_
  refine sq ?_
  refine .r0 ?_
  apply wpSq_end
  refine hK3 _ _ ?_
  refine cf ?_
  refine wp_skip ?_
  refine hK2 _ _ ?_
  refine wp_seq_k ?_
  intro K4 hK4
  refine rg [0] ?_
  refine sq ?_
  refine .al hs ?_; clear hs; intro p_b2 w_2 hs n2 kb_b2
  apply wpSq_end
  refine hK4 _ _ ?_
  refine wp_seq_k ?_
  intro K5 hK5
  refine rg [0] ?_
  refine sq ?_
  refine .mv ?_
  apply wpSq_end
  refine hK5 _ _ ?_
  refine wp_seq_k ?_
  intro K6 hK6
  refine rg [0, 1, 2, 3, 4, 5, 6, 7, 8] ?_
  refine sq ?_
  refine .mv ?_
  refine sq ?_
  intro K hK
  go_big_op
  go_fit (HC.out _)
  rintro e w_3 ⟨rfl, hb_3⟩
  replace hs := hs.bl hb_3
  refine hK _ _ rfl trivial ?_
  clear hK K
  refine sq ?_
  refine .mv ?_
  refine sq ?_
  refine .r0 ?_
  refine sq ?_
  refine .r0 ?_
  refine sq ?_
  refine .r0 ?_
  refine sq ?_
  refine .mv ?_
  refine sq ?_
  refine .mv ?_
  refine sq ?_
  refine .mv ?_
  apply wpSq_end
  refine hK6 _ _ ?_
  refine wp_seq_k ?_
  intro K7 hK7
  refine wp_seq_k ?_
  intro K8 hK8
  refine rg [0, 1] ?_
  refine sq ?_
  refine .mv ?_
  refine sq ?_
  refine .r0 ?_
  apply wpSq_end
  refine hK8 _ _ ?_
  refine cf ?_
  refine wp_skip ?_
  refine hK7 _ _ ?_
  refine wp_seq_k ?_
  intro K9 hK9
  refine wp_seq_k ?_
  intro K10 hK10
  refine rg [0, 1] ?_
  refine sq ?_
  refine .mv ?_
  refine sq ?_
  refine .r0 ?_
  apply wpSq_end
  refine hK10 _ _ ?_
  refine cf ?_
  refine wp_skip ?_
  refine hK9 _ _ ?_
  refine wp_seq_k ?_
  intro K11 hK11
  refine rg [0, 1, 2, 3, 4, 5, 6, 7, 8, 9] ?_
  refine sq ?_
  refine .mv ?_
  refine sq ?_
  refine .mv ?_
  refine sq ?_
  refine .r0 ?_
  refine sq ?_
  intro K hK
  go_big_op
  go_fit (zparse_ok (A ++ D) _ HZ0.out.2 HZ0.out.1)
  rintro e w_4 ⟨v_r, rfl, r, hb_4⟩
  replace hs := hs.bl hb_4
  obtain ⟨n_r, o_r, k_r, c_r, rfl⟩ := r.open2
  have Lr := hide (r.lenOf (HL0.out))
  refine hK _ _ rfl trivial ?_
  clear hK K
  refine sq ?_
  refine .mv ?_
  refine sq ?_
  refine .r0 ?_
  refine sq ?_
  refine .r0 ?_
  refine sq ?_
  refine .r0 ?_
  refine sq ?_
  intro K hK
  have xs := hs.g0
  obtain ⟨d0, d1, d2, d3⟩ := hs.g0.f4
  have f0 := xs.free 0; have f1 := xs.free 1
  go_big_op
  have hd5 := xs.nod rfl rfl
  obtain ⟨w_5, eW, xs', ho5⟩ : ∃ w', ((w_4.setCell ⟨p_b2, 0, none⟩ (.bool n_r)).setCell ⟨p_b2, 1, none⟩ (.slice o_r k_r c_r)) = w' ∧ Bs w' p_b2 #[.bool n_r, .slice o_r k_r c_r, .bool false, .slice none 0 0] 29 ∧ Only p_b2 w_4 w' := xs.setN [(0, .bool n_r), (1, .slice o_r k_r c_r)]
  rw [eW]; clear eW d0 d1 d2 d3 f0 f1 xs
  replace hs := hs.u0 kb_b2 xs' ho5; clear xs'
  refine hK _ _ rfl trivial ?_; clear hK K
  refine sq ?_
  refine .mv ?_
  apply wpSq_end
  refine hK11 _ _ ?_
  refine wp_seq_k ?_
  intro K12 hK12
  refine wp_seq_k ?_
  intro K13 hK13
  refine rg [0, 1] ?_
  refine sq ?_
  refine .mv ?_
  refine sq ?_
  refine .r0 ?_
  apply wpSq_end
  refine hK13 _ _ ?_
  refine cf ?_
  refine wp_skip ?_
  refine hK12 _ _ ?_
  refine wp_seq_k ?_
  intro K14 hK14
  refine wp_seq_k ?_
  intro K15 hK15
  refine rg [0, 1] ?_
  refine sq ?_
  refine .mv ?_
  refine sq ?_
  refine .r0 ?_
  apply wpSq_end
  refine hK15 _ _ ?_
  refine cf ?_
  refine wp_skip ?_
  refine hK14 _ _ ?_
  refine wp_seq_k ?_
  intro K16 hK16
  refine rg [0, 1, 2, 3, 4, 5, 6, 7, 8] ?_
  refine sq ?_
  refine .mv ?_
  refine sq ?_
  intro K hK
  go_big_op
  go_fit (HC2.out _)
  rintro e w_6 ⟨rfl, hb_6⟩
  replace hs := hs.bl hb_6
  refine hK _ _ rfl trivial ?_
  clear hK K
  refine sq ?_
  refine .mv ?_
  refine sq ?_
  refine .r0 ?_
  refine sq ?_
  refine .r0 ?_
  refine sq ?_
  refine .r0 ?_
  refine sq ?_
  refine .mv ?_
  refine sq ?_
  refine .mv ?_
  refine sq ?_
  refine .mv ?_
  apply wpSq_end
  refine hK16 _ _ ?_
  refine wp_seq_k ?_
  intro K17 hK17
  refine wp_seq_k ?_
  intro K18 hK18
  refine rg [0, 1] ?_
  refine sq ?_
  refine .mv ?_
  refine sq ?_
  refine .r0 ?_
  apply wpSq_end
  refine hK18 _ _ ?_
  refine cf ?_
  refine wp_skip ?_
  refine hK17 _ _ ?_
  refine wp_seq_k ?_
  intro K19 hK19
  refine wp_label ?_
  refine hK19 _ _ ?_
  refine wp_seq_k ?_
  intro K20 hK20
  refine wp_seq_k ?_
  intro K21 hK21
  refine rg [0, 1] ?_
  refine sq ?_
  refine .mv ?_
  refine sq ?_
  refine .r0 ?_
  apply wpSq_end
  refine hK21 _ _ ?_
  refine cf ?_
  refine wp_skip ?_
  refine hK20 _ _ ?_
  refine wp_seq_k ?_
  intro K22 hK22
  refine rg [0, 1, 2, 3, 4, 5, 6] ?_
  refine sq ?_
  refine .mv ?_
  refine sq ?_
  intro K hK
  go_big_op
  go_fit (zparse_ok D2 _ HZ.out.2 HZ.out.1)
  rintro e w_7 ⟨v_g, rfl, g, hb_7⟩
  replace hs := hs.bl hb_7
  obtain ⟨n_g, o_g, k_g, c_g, rfl⟩ := g.open2
  have Lg := hide (g.lenOf (HL.out))
  refine hK _ _ rfl trivial ?_
  clear hK K
  refine sq ?_
  refine .mv ?_
  refine sq ?_
  refine .r0 ?_
  refine sq ?_
  refine .r0 ?_
  refine sq ?_
  refine .r0 ?_
  refine sq ?_
  intro K hK
  have xs := hs.g0
  obtain ⟨d0, d1, d2, d3⟩ := hs.g0.f4
  have f0 := xs.free 2; have f1 := xs.free 3
  go_big_op
  have hd8 := xs.nod rfl rfl
  obtain ⟨w_8, eW, xs', ho8⟩ : ∃ w', ((w_7.setCell ⟨p_b2, 2, none⟩ (.bool n_g)).setCell ⟨p_b2, 3, none⟩ (.slice o_g k_g c_g)) = w' ∧ Bs w' p_b2 #[.bool n_r, .slice o_r k_r c_r, .bool n_g, .slice o_g k_g c_g] 29 ∧ Only p_b2 w_7 w' := xs.setN [(2, .bool n_g), (3, .slice o_g k_g c_g)]
  rw [eW]; clear eW d0 d1 d2 d3 f0 f1 xs
  replace hs := hs.u0 kb_b2 xs' ho8; clear xs'
  refine hK _ _ rfl trivial ?_; clear hK K
  apply wpSq_end
  refine hK22 _ _ ?_
  refine wp_seq_k ?_
  intro K23 hK23
  refine wp_seq_k ?_
  intro K24 hK24
  refine rg [0, 1] ?_
  refine sq ?_
  refine .mv ?_
  refine sq ?_
  refine .r0 ?_
  apply wpSq_end
  refine hK24 _ _ ?_
  refine cf ?_
  refine wp_skip ?_
  refine hK23 _ _ ?_
  refine wp_seq_k ?_
  intro K25 hK25
  refine wp_label ?_
  refine hK25 _ _ ?_
  refine wp_seq_k ?_
  intro K26 hK26
  refine wp_seq_k ?_
  intro K27 hK27
  refine rg [0, 1, 2] ?_
  refine sq ?_
  refine .r4 hs.g0.f4 ?_
  refine sq ?_
  refine .s4 hs.g1 (fun _ => hs.u1 kb_b1) ?_; clear hs; intro w_9 hs hd9 ho9
  refine sq ?_
  refine .mv ?_
  apply wpSq_end
  refine hK27 _ _ ?_
  refine wp_ret ?_
  refine hSr _ _ _ ?_
  try dsimp only [Exit.then, Exit.inBlock]
  obtain ⟨r0_0, r0_1, r0_2, r0_3⟩ := hs.g1.f4
  refine bodyPost_ret (v := (.tuple #[(.agg #[.bool n_r, .slice o_r k_r c_r, .bool n_g, .slice o_g k_g c_g]), (.int .i64 0)])) (by simp [results, Tryz.results20, go_sem, r0_0, r0_1, r0_2, r0_3]) rfl ?_
  have k4_9 := ((((ko hd5 ho5).b hb_6).b hb_7).o hd8 ho8).o hd9 ho9
  replace r := r.k k4_9
  have k7_9 := (ko hd8 ho8).o hd9 ho9
  replace g := g.k k7_9
  exact ⟨_, rfl, .mk' r g, hs.b⟩
set_option maxHeartbeats 8000000 in
set_option maxRecDepth 20000 in
theorem parse_both_dm (w : World) (hsz : s.size ≤ 65536) (hc : CutIs s A D R) (hA : (A.toList == [43]) = false) (hR : (R.toList == [105]) = false) (hR0 : (R.toList == []) = false) (hz0 : zok (A ++ D) = true) (hAD : (A ++ D).size ≤ 65536) (hc2 : CutIs R A2 D2 R2) (hR2 : (R2.toList == [105]) = true) (hD : (D2.toList == []) = false) (hM : (A2.toList == [45]) = true) (hz : zok D2 = true) (hsz : D2.size ≤ 65536) :
    Calls Tryz.prog 20 #[.string s] w fun e w' => ∃ r, e = .returned (.tuple #[r, .int .i64 0]) ∧ PC w' r (zvl (A ++ D)) (-(zvl D2)) ∧ Below w.heap.size w w' := by
  have HC := hide hc
  have hsz' : (65536 < (s.size : Int)) = False := eq_false (by omega)
  have HC2 := hide hc2
  have HZ0 := hide (And.intro hz0 hAD)
  have HL0 := hide (zvl_len hAD hz0)
  have hsz0 : A.size + D.size ≤ 65536 := by rw [← ByteArray.size_append]; exact hAD
  clear hz0 hc2
  have HZ := hide (And.intro hz hsz)
  have HL := hide (zvl_len hsz hz)
  clear hz
  clear hc
  go_enter Tryz.func20, Tryz.ntmps20
  have hs := St.nil w
  refine wp_seq_k ?_
  intro K1 hK1
  refine rg [0, 1] ?_
  refine sq ?_
  refine .al hs ?_; clear hs; intro p_b1 w_1 hs n1 kb_b1
  refine sq ?_
  refine .mv ?_
  apply wpSq_end
  refine hK1 _ _ ?_
  refine wp_scope_k 9 ?_
  intro S hSr hSn hSg
  refine wp_seq_k ?_
  intro K2 hK2
  refine wp_seq_k ?_
  intro K3 hK3
  refine rg [0, 1, 2] ?_
  refine sq ?_
  refine .mv ?_
  refine sq ?_
  refine .r0 ?_
  refine sq ?_
  refine .r0 ?_
  apply wpSq_end
  refine hK3 _ _ ?_
  refine cf ?_
  refine wp_skip ?_
  refine hK2 _ _ ?_
  refine wp_seq_k ?_
  intro K4 hK4
  refine rg [0] ?_
  refine sq ?_
  refine .al hs ?_; clear hs; intro p_b2 w_2 hs n2 kb_b2
  apply wpSq_end
  refine hK4 _ _ ?_
  refine wp_seq_k ?_
  intro K5 hK5
  refine rg [0] ?_
  refine sq ?_
  refine .mv ?_
  apply wpSq_end
  refine hK5 _ _ ?_
  refine wp_seq_k ?_
  intro K6 hK6
  refine rg [0, 1, 2, 3, 4, 5, 6, 7, 8] ?_
  refine sq ?_
  refine .mv ?_
  refine sq ?_
  intro K hK
  go_big_op
  go_fit (HC.out _)
  rintro e w_3 ⟨rfl, hb_3⟩
  replace hs := hs.bl hb_3
  refine hK _ _ rfl trivial ?_
  clear hK K
  refine sq ?_
  refine .mv ?_
  refine sq ?_
  refine .r0 ?_
  refine sq ?_
  refine .r0 ?_
  refine sq ?_
  refine .r0 ?_
  refine sq ?_
  refine .mv ?_
  refine sq ?_
  refine .mv ?_
  refine sq ?_
  refine .mv ?_
  apply wpSq_end
  refine hK6 _ _ ?_
  refine wp_seq_k ?_
  intro K7 hK7
  refine wp_seq_k ?_
  intro K8 hK8
  refine rg [0, 1] ?_
  refine sq ?_
  refine .mv ?_
  refine sq ?_
  refine .r0 ?_
  apply wpSq_end
  refine hK8 _ _ ?_
  refine cf ?_
  refine wp_skip ?_
  refine hK7 _ _ ?_
  refine wp_seq_k ?_
  intro K9 hK9
  refine wp_seq_k ?_
  intro K10 hK10
  refine rg [0, 1] ?_
  refine sq ?_
  refine .mv ?_
  refine sq ?_
  refine .r0 ?_
  apply wpSq_end
  refine hK10 _ _ ?_
  refine cf ?_
  refine wp_skip ?_
  refine hK9 _ _ ?_
  refine wp_seq_k ?_
  intro K11 hK11
  refine rg [0, 1, 2, 3, 4, 5, 6, 7, 8, 9] ?_
  refine sq ?_
  refine .mv ?_
  refine sq ?_
  refine .mv ?_
  refine sq ?_
  refine .r0 ?_
  refine sq ?_
  intro K hK
  go_big_op
  go_fit (zparse_ok (A ++ D) _ HZ0.out.2 HZ0.out.1)
  rintro e w_4 ⟨v_r, rfl, r, hb_4⟩
  replace hs := hs.bl hb_4
  obtain ⟨n_r, o_r, k_r, c_r, rfl⟩ := r.open2
  have Lr := hide (r.lenOf (HL0.out))
  refine hK _ _ rfl trivial ?_
  clear hK K
  refine sq ?_
  refine .mv ?_
  refine sq ?_
  refine .r0 ?_
  refine sq ?_
  refine .r0 ?_
  refine sq ?_
  refine .r0 ?_
  refine sq ?_
  intro K hK
  have xs := hs.g0
  obtain ⟨d0, d1, d2, d3⟩ := hs.g0.f4
  have f0 := xs.free 0; have f1 := xs.free 1
  go_big_op
  have hd5 := xs.nod rfl rfl
  obtain ⟨w_5, eW, xs', ho5⟩ : ∃ w', ((w_4.setCell ⟨p_b2, 0, none⟩ (.bool n_r)).setCell ⟨p_b2, 1, none⟩ (.slice o_r k_r c_r)) = w' ∧ Bs w' p_b2 #[.bool n_r, .slice o_r k_r c_r, .bool false, .slice none 0 0] 29 ∧ Only p_b2 w_4 w' := xs.setN [(0, .bool n_r), (1, .slice o_r k_r c_r)]
  rw [eW]; clear eW d0 d1 d2 d3 f0 f1 xs
  replace hs := hs.u0 kb_b2 xs' ho5; clear xs'
  refine hK _ _ rfl trivial ?_; clear hK K
  refine sq ?_
  refine .mv ?_
  apply wpSq_end
  refine hK11 _ _ ?_
  refine wp_seq_k ?_
  intro K12 hK12
  refine wp_seq_k ?_
  intro K13 hK13
  refine rg [0, 1] ?_
  refine sq ?_
  refine .mv ?_
  refine sq ?_
  refine .r0 ?_
  apply wpSq_end
  refine hK13 _ _ ?_
  refine cf ?_
  refine wp_skip ?_
  refine hK12 _ _ ?_
  refine wp_seq_k ?_
  intro K14 hK14
  refine wp_seq_k ?_
  intro K15 hK15
  refine rg [0, 1] ?_
  refine sq ?_
  refine .mv ?_
  refine sq ?_
  refine .r0 ?_
  apply wpSq_end
  refine hK15 _ _ ?_
  refine cf ?_
  refine wp_skip ?_
  refine hK14 _ _ ?_
  refine wp_seq_k ?_
  intro K16 hK16
  refine rg [0, 1, 2, 3, 4, 5, 6, 7, 8] ?_
  refine sq ?_
  refine .mv ?_
  refine sq ?_
  intro K hK
  go_big_op
  go_fit (HC2.out _)
  rintro e w_6 ⟨rfl, hb_6⟩
  replace hs := hs.bl hb_6
  refine hK _ _ rfl trivial ?_
  clear hK K
  refine sq ?_
  refine .mv ?_
  refine sq ?_
  refine .r0 ?_
  refine sq ?_
  refine .r0 ?_
  refine sq ?_
  refine .r0 ?_
  refine sq ?_
  refine .mv ?_
  refine sq ?_
  refine .mv ?_
  refine sq ?_
  refine .mv ?_
  apply wpSq_end
  refine hK16 _ _ ?_
  refine wp_seq_k ?_
  intro K17 hK17
  refine wp_seq_k ?_
  intro K18 hK18
  refine rg [0, 1] ?_
  refine sq ?_
  refine .mv ?_
  refine sq ?_
  refine .r0 ?_
  apply wpSq_end
  refine hK18 _ _ ?_
  refine cf ?_
  refine wp_skip ?_
  refine hK17 _ _ ?_
  refine wp_seq_k ?_
  intro K19 hK19
  refine wp_label ?_
  refine hK19 _ _ ?_
  refine wp_seq_k ?_
  intro K20 hK20
  refine wp_seq_k ?_
  intro K21 hK21
  refine rg [0, 1] ?_
  refine sq ?_
  refine .mv ?_
  refine sq ?_
  refine .r0 ?_
  apply wpSq_end
  refine hK21 _ _ ?_
  refine cf ?_
  refine wp_skip ?_
  refine hK20 _ _ ?_
  refine wp_seq_k ?_
  intro K22 hK22
  refine rg [0, 1, 2, 3, 4, 5, 6] ?_
  refine sq ?_
  refine .mv ?_
  refine sq ?_
  intro K hK
  go_big_op
  go_fit (zparse_ok D2 _ HZ.out.2 HZ.out.1)
  rintro e w_7 ⟨v_g, rfl, g, hb_7⟩
  replace hs := hs.bl hb_7
  obtain ⟨n_g, o_g, k_g, c_g, rfl⟩ := g.open2
  have Lg := hide (g.lenOf (HL.out))
  refine hK _ _ rfl trivial ?_
  clear hK K
  refine sq ?_
  refine .mv ?_
  refine sq ?_
  refine .r0 ?_
  refine sq ?_
  refine .r0 ?_
  refine sq ?_
  refine .r0 ?_
  refine sq ?_
  intro K hK
  have xs := hs.g0
  obtain ⟨d0, d1, d2, d3⟩ := hs.g0.f4
  have f0 := xs.free 2; have f1 := xs.free 3
  go_big_op
  have hd8 := xs.nod rfl rfl
  obtain ⟨w_8, eW, xs', ho8⟩ : ∃ w', ((w_7.setCell ⟨p_b2, 2, none⟩ (.bool n_g)).setCell ⟨p_b2, 3, none⟩ (.slice o_g k_g c_g)) = w' ∧ Bs w' p_b2 #[.bool n_r, .slice o_r k_r c_r, .bool n_g, .slice o_g k_g c_g] 29 ∧ Only p_b2 w_7 w' := xs.setN [(2, .bool n_g), (3, .slice o_g k_g c_g)]
  rw [eW]; clear eW d0 d1 d2 d3 f0 f1 xs
  replace hs := hs.u0 kb_b2 xs' ho8; clear xs'
  refine hK _ _ rfl trivial ?_; clear hK K
  apply wpSq_end
  refine hK22 _ _ ?_
  refine wp_seq_k ?_
  intro K23 hK23
  refine wp_seq_k ?_
  intro K24 hK24
  refine rg [0, 1] ?_
  refine sq ?_
  refine .mv ?_
  refine sq ?_
  refine .r0 ?_
  apply wpSq_end
  refine hK24 _ _ ?_
  refine ct ?_
  refine rg [0, 1, 2, 3, 4] ?_
  refine sq ?_
  refine .r0 ?_
  refine sq ?_
  refine .r4 hs.g0.f4 ?_
  refine sq ?_
  intro K hK
  have k7_8 := ko hd8 ho8
  replace g := g.k k7_8
  go_big_op
  go_fit (zneg_any (g.zn Lg.out) (by omega) )
  rintro e w_9 ⟨v_o, rfl, o, hb_9⟩
  replace hs := hs.bl hb_9
  replace o := o.rd
  obtain ⟨n_o, o_o, k_o, c_o, rfl⟩ := o.open2
  have Lo := hide (o.lenOf (zlen_neg (Lg.out)))
  refine hK _ _ rfl trivial ?_
  clear hK K
  refine sq ?_
  refine .r0 ?_
  refine sq ?_
  intro K hK
  have xs := hs.g0
  obtain ⟨d0, d1, d2, d3⟩ := hs.g0.f4
  have f0 := xs.free 2; have f1 := xs.free 3
  go_big_op
  have hd10 := xs.nod rfl rfl
  obtain ⟨w_10, eW, xs', ho10⟩ : ∃ w', ((w_9.setCell ⟨p_b2, 2, none⟩ (.bool n_o)).setCell ⟨p_b2, 3, none⟩ (.slice o_o k_o c_o)) = w' ∧ Bs w' p_b2 #[.bool n_r, .slice o_r k_r c_r, .bool n_o, .slice o_o k_o c_o] 29 ∧ Only p_b2 w_9 w' := xs.setN [(2, .bool n_o), (3, .slice o_o k_o c_o)]
  rw [eW]; clear eW d0 d1 d2 d3 f0 f1 xs
  replace hs := hs.u0 kb_b2 xs' ho10; clear xs'
  refine hK _ _ rfl trivial ?_; clear hK K
  apply wpSq_end
  refine hK23 _ _ ?_
  refine wp_seq_k ?_
  intro K25 hK25
  refine wp_label ?_
  refine hK25 _ _ ?_
  refine wp_seq_k ?_
  intro K26 hK26
  refine wp_seq_k ?_
  intro K27 hK27
  refine rg [0, 1, 2] ?_
  refine sq ?_
  refine .r4 hs.g0.f4 ?_
  refine sq ?_
  refine .s4 hs.g1 (fun _ => hs.u1 kb_b1) ?_; clear hs; intro w_11 hs hd11 ho11
  refine sq ?_
  refine .mv ?_
  apply wpSq_end
  refine hK27 _ _ ?_
  refine wp_ret ?_
  refine hSr _ _ _ ?_
  try dsimp only [Exit.then, Exit.inBlock]
  obtain ⟨r0_0, r0_1, r0_2, r0_3⟩ := hs.g1.f4
  refine bodyPost_ret (v := (.tuple #[(.agg #[.bool n_r, .slice o_r k_r c_r, .bool n_o, .slice o_o k_o c_o]), (.int .i64 0)])) (by simp [results, Tryz.results20, go_sem, r0_0, r0_1, r0_2, r0_3]) rfl ?_
  have k4_11 := ((((((ko hd5 ho5).b hb_6).b hb_7).o hd8 ho8).b hb_9).o hd10 ho10).o hd11 ho11
  replace r := r.k k4_11
  have k9_11 := (ko hd10 ho10).o hd11 ho11
  replace o := o.k k9_11
  exact ⟨_, rfl, .mk' r o, hs.b⟩
end
end Go.Proofs.YtlomgfgedkkhkaaGreatDoor
