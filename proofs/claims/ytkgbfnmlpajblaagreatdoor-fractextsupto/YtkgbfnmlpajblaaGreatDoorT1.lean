/- Texts with a sign: CutPrefix, the references Is and Parse. -/
import Derived.Test.YtkgbfnmlpajblaaGreatDoorZ13
import Derived.Test.YtkgbfnmlpajblaaGreatDoorR11
import Derived.Test.YtkgbfnmlpajblaaGreatDoorR12
namespace Go.Proofs.YtkgbfnmlpajblaaGreatDoor
open Go.RowKit Dig

/-- Does a text begin with a -? -/
def minusB (s : ByteArray) : Bool := decide (1 ≤ s.size) && ((s.extract 0 1).toList == [45])

set_option maxHeartbeats 1000000 in
set_option maxRecDepth 20000 in
theorem hasPrefix_any (s : ByteArray) (w : World) :
    Calls Tryz.prog 151 #[.string s, .string ⟨#[45]⟩] w fun e w' => e = .returned (.bool (minusB s)) ∧ w' = w := by
  by_cases h : 1 ≤ s.size
  · have hm : minusB s = ((s.extract 0 1).toList == [45]) := by unfold minusB; rw [decide_eq_true h, Bool.true_and]
    rw [hm]
    clear hm
    go_enter Tryz.func151, Tryz.ntmps151
    go_wp2
    go_ret
    exact ⟨rfl, rfl⟩
  · have hm : minusB s = false := by unfold minusB; rw [decide_eq_false h, Bool.false_and]
    rw [hm]
    clear hm
    go_enter Tryz.func151, Tryz.ntmps151
    go_wp2
    go_ret
    exact ⟨rfl, rfl⟩

set_option maxHeartbeats 1000000 in
set_option maxRecDepth 20000 in
theorem cutPrefix0 (s : ByteArray) (w : World) (hm : minusB s = false) :
    Calls Tryz.prog 147 #[.string s, .string ⟨#[45]⟩] w fun e w' => e = .returned (.tuple #[.string s, .bool false]) ∧ w' = w := by
  go_enter Tryz.func147, Tryz.ntmps147
  go_wp2_with fail
  refine (hasPrefix_any s w).mono ?_
  rintro e w' ⟨rfl, rfl⟩
  rw [hm]
  go_wp2
  go_ret2
  exact ⟨rfl, rfl⟩
set_option maxHeartbeats 1000000 in
set_option maxRecDepth 20000 in
theorem cutPrefix1 (s : ByteArray) (w : World) (hs : s.size ≤ 1048576) (hm : minusB s = true) :
    Calls Tryz.prog 147 #[.string s, .string ⟨#[45]⟩] w fun e w' => e = .returned (.tuple #[.string (s.extract 1 s.size), .bool true]) ∧ w' = w := by
  have h1 : 1 ≤ s.size := by unfold minusB at hm; rw [Bool.and_eq_true] at hm; exact of_decide_eq_true hm.1
  go_enter Tryz.func147, Tryz.ntmps147
  go_wp2_with fail
  refine (hasPrefix_any s w).mono ?_
  rintro e w' ⟨rfl, rfl⟩
  rw [hm]
  clear hm
  go_wp2
  go_ret2
  exact ⟨rfl, rfl⟩

set_option maxHeartbeats 1000000 in
set_option maxRecDepth 20000 in
theorem scut0 (s : ByteArray) (w : World) (hm : minusB s = false) :
    Calls Tryz.prog 126 #[.string s, .string ⟨#[45]⟩] w fun e w' => e = .returned (.tuple #[.string s, .bool false]) ∧ w' = w := by
  go_enter Tryz.func126, Tryz.ntmps126
  go_wp2_with fail
  refine (cutPrefix0 s w hm).mono ?_
  rintro e w' ⟨rfl, rfl⟩
  go_wp2
  go_ret2
  exact ⟨rfl, rfl⟩
set_option maxHeartbeats 1000000 in
set_option maxRecDepth 20000 in
theorem scut1 (s : ByteArray) (w : World) (hs : s.size ≤ 1048576) (hm : minusB s = true) :
    Calls Tryz.prog 126 #[.string s, .string ⟨#[45]⟩] w fun e w' => e = .returned (.tuple #[.string (s.extract 1 s.size), .bool true]) ∧ w' = w := by
  go_enter Tryz.func126, Tryz.ntmps126
  go_wp2_with fail
  refine (cutPrefix1 s w hs hm).mono ?_
  rintro e w' ⟨rfl, rfl⟩
  go_wp2
  go_ret2
  exact ⟨rfl, rfl⟩

theorem minus_at (s : ByteArray) (h : 0 < s.size) : minusB s = (((s[0]'h).toNat : Int) == 45) := by
  unfold minusB
  rw [decide_eq_true (show 1 ≤ s.size from h), Bool.true_and, Lib.extract_toList]
  obtain ⟨⟨l⟩⟩ := s
  cases l with
  | nil => exact absurd h (Nat.lt_irrefl 0)
  | cons c l =>
    show ([c] == [45]) = ((c.toNat : Int) == 45)
    rw [Bool.eq_iff_iff]
    simp only [beq_iff_eq, List.cons.injEq, and_true]
    constructor
    · rintro rfl; rfl
    · intro h2
      have h3 : c.toNat = (45 : UInt8).toNat := by have : (45 : UInt8).toNat = 45 := rfl; omega
      exact UInt8.toNat_inj.1 h3
theorem minus_size {s : ByteArray} (h : minusB s = true) : 0 < s.size := by
  unfold minusB at h; rw [Bool.and_eq_true] at h; exact of_decide_eq_true h.1
theorem rest_size {s : ByteArray} : (s.extract 1 s.size).size = s.size - 1 := by
  rw [Lib.size_eq, Lib.extract_data, List.length_take, List.length_drop, ← Lib.size_eq]; omega

set_option maxHeartbeats 1000000 in
set_option maxRecDepth 20000 in
/-- tesselref2.Is, with a -. -/
theorem ris_minus (s : ByteArray) (w : World) (hs : s.size ≤ 65536) (hm : minusB s = true) :
    Calls Tryz.prog 96 #[.string s] w fun e w' => e = .returned (.bool (digitsB (s.extract 1 s.size).data.toList)) ∧ w' = w := by
  have h := minus_size hm
  have hr := rest_size (s := s)
  have hd := rDigits_any (s.extract 1 s.size) w (by omega)
  have hm2 := minus_at s h
  rw [hm] at hm2
  obtain ⟨c, hc⟩ : ∃ c, s[0]'h = c := ⟨_, rfl⟩
  rw [hc] at hm2
  have hc2 := hm2.symm
  clear hm hm2 hr
  obtain ⟨D, hD⟩ : ∃ D, digitsB (s.extract 1 s.size).data.toList = D := ⟨_, rfl⟩
  rw [hD] at hd ⊢
  clear hD
  have HD := hide hd
  clear hd
  go_enter Tryz.func96, Tryz.ntmps96
  go_wp2_with fail
  refine HD.out.mono ?_
  rintro e w' ⟨rfl, rfl⟩
  go_wp2
  go_ret
  exact ⟨rfl, rfl⟩
set_option maxHeartbeats 1000000 in
set_option maxRecDepth 20000 in
/-- tesselref2.Is, without. -/
theorem ris_plain (s : ByteArray) (w : World) (hs : s.size ≤ 65536) (hm : minusB s = false) :
    Calls Tryz.prog 96 #[.string s] w fun e w' => e = .returned (.bool (digitsB s.data.toList)) ∧ w' = w := by
  have HD := hide (rDigits_any s w (by omega))
  obtain ⟨D, hD⟩ : ∃ D, digitsB s.data.toList = D := ⟨_, rfl⟩
  rw [hD] at HD ⊢
  clear hD
  by_cases h : 0 < s.size
  · have hm2 := minus_at s h
    rw [hm] at hm2
    obtain ⟨c, hc⟩ : ∃ c, s[0]'h = c := ⟨_, rfl⟩
    rw [hc] at hm2
    have hc2 := hm2.symm
    clear hm hm2
    go_enter Tryz.func96, Tryz.ntmps96
    go_wp2_with fail
    refine HD.out.mono ?_
    rintro e w' ⟨rfl, rfl⟩
    go_wp2
    go_ret
    exact ⟨rfl, rfl⟩
  · have h0 : s.size = 0 := by omega
    clear hm h
    go_enter Tryz.func96, Tryz.ntmps96
    go_wp2_with fail
    refine HD.out.mono ?_
    rintro e w' ⟨rfl, rfl⟩
    go_wp2
    go_ret
    exact ⟨rfl, rfl⟩

set_option maxHeartbeats 1000000 in
set_option maxRecDepth 20000 in
/-- tesselref2.Parse, with a -. -/
theorem rzparse_minus (s : ByteArray) (w : World) (hs : s.size ≤ 65536) (hm : minusB s = true) (hd : (s.extract 1 s.size).data.toList.all isD = true) :
    Calls Tryz.prog 98 #[.string s] w fun e w' => ∃ v, e = .returned v ∧ ZC w' v (-((pval (s.extract 1 s.size).data.toList : Nat) : Int)) ∧ Below w.heap.size w w' := by
  have h := minus_size hm
  have hr := rest_size (s := s)
  have LD := hide (pval_dig_length hd (by rw [← Lib.size_eq]; omega))
  have HP := hide (fun w => rparse_any (s.extract 1 s.size) w (by omega) hd)
  have hm2 := minus_at s h
  rw [hm] at hm2
  obtain ⟨c, hc⟩ : ∃ c, s[0]'h = c := ⟨_, rfl⟩
  rw [hc] at hm2
  have hc2 := hm2.symm
  clear hm hm2 hr hd
  obtain ⟨V, hV⟩ : ∃ V, pval (s.extract 1 s.size).data.toList = V := ⟨_, rfl⟩
  rw [hV] at HP LD ⊢
  clear hV
  have E1 := hide (show (if true = true then -((val (dig V) : Nat) : Int) else ((val (dig V) : Nat) : Int)) = -((V : Nat) : Int) by rw [val_dig]; rfl)
  go_enter Tryz.func98, Tryz.ntmps98
  have hb := Below.refl w.heap.size w
  have hz := Bk.new w false (.slice none 0 0)
  replace hb := hb.alloc hb.size (.cells #[.bool false, (.slice none 0 0)] 24)
  go_wp2_with fail
  refine (HP.out _).mono ?_
  rintro e w_1 ⟨v1, rfl, g1, hb_1⟩
  replace hz := hz.below hb_1 (Nat.le_refl _)
  replace hb := hb.trans (hb_1.mono hb.size)
  clear hb_1
  go_wp2_with fail
  refine (make_any true _ g1 (by have := LD.out; omega) E1.out).mono ?_
  rintro e w_2 ⟨v2, rfl, g2, hb_2⟩
  replace hz := hz.below hb_2 (Nat.le_refl _)
  replace g1 := g1.below hb_2 (Nat.le_refl _)
  replace hb := hb.trans (hb_2.mono hb.size)
  clear hb_2
  replace g2 := g2.rd
  clear g1
  obtain ⟨sb_hz, o_hz, n_hz, c_hz, rfl⟩ := g2.open2
  have f_hz := hz.facts
  have ho := Bk.only w_2 (w.heap.size) sb_hz (.slice o_hz n_hz c_hz)
  have hbx_ := hz.bx
  replace g2 := g2.frame hbx_ ho
  replace hz := hz.store sb_hz (.slice o_hz n_hz c_hz)
  replace hb := (hb.setCell (p := ⟨w.heap.size, 0, none⟩) (show w.heap.size ≤ w.heap.size by first | assumption | (simp; done) | omega) (.bool sb_hz)).setCell (p := ⟨w.heap.size, 1, none⟩) (show w.heap.size ≤ w.heap.size by first | assumption | (simp; done) | omega) (.slice o_hz n_hz c_hz)
  clear ho hbx_
  obtain ⟨w_3, hw_3⟩ : ∃ v, ((w_2.setCell ⟨w.heap.size, 0, none⟩ (.bool sb_hz)).setCell ⟨w.heap.size, 1, none⟩ (.slice o_hz n_hz c_hz)) = v := ⟨_, rfl⟩
  rw [hw_3] at hz g2 hb
  have f1 := hz.facts
  go_wp2
  refine bodyPost_ret (v := .agg #[.bool sb_hz, .slice o_hz n_hz c_hz]) (by simp [results, Tryz.results98, go_sem, f1.1, f1.2.1]) rfl ?_
  exact ⟨_, rfl, g2, hb⟩
set_option maxHeartbeats 1000000 in
set_option maxRecDepth 20000 in
/-- tesselref2.Parse, without. -/
theorem rzparse_plain (s : ByteArray) (w : World) (hs : s.size ≤ 65536) (hm : minusB s = false) (h : 0 < s.size) (hd : s.data.toList.all isD = true) :
    Calls Tryz.prog 98 #[.string s] w fun e w' => ∃ v, e = .returned v ∧ ZC w' v ((pval s.data.toList : Nat) : Int) ∧ Below w.heap.size w w' := by
  have LD := hide (pval_dig_length hd (by rw [← Lib.size_eq]; omega))
  have HP := hide (fun w => rparse_any s w hs hd)
  have hm2 := minus_at s h
  rw [hm] at hm2
  obtain ⟨c, hc⟩ : ∃ c, s[0]'h = c := ⟨_, rfl⟩
  rw [hc] at hm2
  have hc2 := hm2.symm
  clear hm hm2 hd
  obtain ⟨V, hV⟩ : ∃ V, pval s.data.toList = V := ⟨_, rfl⟩
  rw [hV] at HP LD ⊢
  clear hV
  have E1 := hide (show (if false = true then -((val (dig V) : Nat) : Int) else ((val (dig V) : Nat) : Int)) = ((V : Nat) : Int) by rw [val_dig]; rfl)
  go_enter Tryz.func98, Tryz.ntmps98
  have hb := Below.refl w.heap.size w
  have hz := Bk.new w false (.slice none 0 0)
  replace hb := hb.alloc hb.size (.cells #[.bool false, (.slice none 0 0)] 24)
  go_wp2_with fail
  refine (HP.out _).mono ?_
  rintro e w_1 ⟨v1, rfl, g1, hb_1⟩
  replace hz := hz.below hb_1 (Nat.le_refl _)
  replace hb := hb.trans (hb_1.mono hb.size)
  clear hb_1
  go_wp2_with fail
  refine (make_any false _ g1 (by have := LD.out; omega) E1.out).mono ?_
  rintro e w_2 ⟨v2, rfl, g2, hb_2⟩
  replace hz := hz.below hb_2 (Nat.le_refl _)
  replace g1 := g1.below hb_2 (Nat.le_refl _)
  replace hb := hb.trans (hb_2.mono hb.size)
  clear hb_2
  replace g2 := g2.rd
  clear g1
  obtain ⟨sb_hz, o_hz, n_hz, c_hz, rfl⟩ := g2.open2
  have f_hz := hz.facts
  have ho := Bk.only w_2 (w.heap.size) sb_hz (.slice o_hz n_hz c_hz)
  have hbx_ := hz.bx
  replace g2 := g2.frame hbx_ ho
  replace hz := hz.store sb_hz (.slice o_hz n_hz c_hz)
  replace hb := (hb.setCell (p := ⟨w.heap.size, 0, none⟩) (show w.heap.size ≤ w.heap.size by first | assumption | (simp; done) | omega) (.bool sb_hz)).setCell (p := ⟨w.heap.size, 1, none⟩) (show w.heap.size ≤ w.heap.size by first | assumption | (simp; done) | omega) (.slice o_hz n_hz c_hz)
  clear ho hbx_
  obtain ⟨w_3, hw_3⟩ : ∃ v, ((w_2.setCell ⟨w.heap.size, 0, none⟩ (.bool sb_hz)).setCell ⟨w.heap.size, 1, none⟩ (.slice o_hz n_hz c_hz)) = v := ⟨_, rfl⟩
  rw [hw_3] at hz g2 hb
  have f1 := hz.facts
  go_wp2
  refine bodyPost_ret (v := .agg #[.bool sb_hz, .slice o_hz n_hz c_hz]) (by simp [results, Tryz.results98, go_sem, f1.1, f1.2.1]) rfl ?_
  exact ⟨_, rfl, g2, hb⟩
end Go.Proofs.YtkgbfnmlpajblaaGreatDoor
