/- The reference's Parse answers the digits of a text's worth. -/
import Derived.Test.YtlomgfgedkkhkaaGreatDoorZ8ToR10
import Derived.Maps.AppendAt
namespace Go.Proofs.YtlomgfgedkkhkaaGreatDoor
open Go.RowKit Dig Go.Lib
theorem pw_le_ten' (L : Nat) : pw L ≤ 10 ^ (10 * L) := by
  rw [pw_eq, Nat.pow_mul, Nat.pow_mul]
  exact Nat.pow_le_pow_left (by decide) L
theorem dec_len' {n L : Nat} (h : n < pw L) (hL : 0 < L) : (decDigits n).length ≤ 10 * L :=
  decDigits_length_le _ _ (by omega) (Nat.lt_of_lt_of_le h (pw_le_ten' L))
/-- Does a text begin with a -? -/
def minusB (s : ByteArray) : Bool := decide (1 ≤ s.size) && ((s.extract 0 1).toList == [45])
set_option maxHeartbeats 1000000 in
set_option maxRecDepth 20000 in
theorem hasPrefix_any (s : ByteArray) (w : World) :
    Calls Tryz.prog 101 #[.string s, .string ⟨#[45]⟩] w fun e w' => e = .returned (.bool (minusB s)) ∧ w' = w := by
  by_cases h : 1 ≤ s.size
  · have hm : minusB s = ((s.extract 0 1).toList == [45]) := by unfold minusB; rw [decide_eq_true h, Bool.true_and]
    rw [hm]
    clear hm
    go_enter Tryz.func101, Tryz.ntmps101
    go_wp2
    go_ret
    exact ⟨rfl, rfl⟩
  · have hm : minusB s = false := by unfold minusB; rw [decide_eq_false h, Bool.false_and]
    rw [hm]
    clear hm
    go_enter Tryz.func101, Tryz.ntmps101
    go_wp2
    go_ret
    exact ⟨rfl, rfl⟩
set_option maxHeartbeats 1000000 in
set_option maxRecDepth 20000 in
theorem cutPrefix0 (s : ByteArray) (w : World) (hm : minusB s = false) :
    Calls Tryz.prog 106 #[.string s, .string ⟨#[45]⟩] w fun e w' => e = .returned (.tuple #[.string s, .bool false]) ∧ w' = w := by
  go_enter Tryz.func106, Tryz.ntmps106
  go_wp2_with fail
  refine (hasPrefix_any s w).mono ?_
  rintro e w' ⟨rfl, rfl⟩
  rw [hm]
  go_wp2
  go_ret2
  exact ⟨rfl, rfl⟩
set_option maxHeartbeats 1000000 in
set_option maxRecDepth 20000 in
theorem cutPrefix1 (s : ByteArray) (w : World) (hs : s.size ≤ 1048576) (hm : minusB s = true) :
    Calls Tryz.prog 106 #[.string s, .string ⟨#[45]⟩] w fun e w' => e = .returned (.tuple #[.string (s.extract 1 s.size), .bool true]) ∧ w' = w := by
  have h1 : 1 ≤ s.size := by unfold minusB at hm; rw [Bool.and_eq_true] at hm; exact of_decide_eq_true hm.1
  go_enter Tryz.func106, Tryz.ntmps106
  go_wp2_with fail
  refine (hasPrefix_any s w).mono ?_
  rintro e w' ⟨rfl, rfl⟩
  rw [hm]
  clear hm
  go_wp2
  go_ret2
  exact ⟨rfl, rfl⟩
set_option maxHeartbeats 1000000 in
set_option maxRecDepth 20000 in
theorem scut0 (s : ByteArray) (w : World) (hm : minusB s = false) :
    Calls Tryz.prog 81 #[.string s, .string ⟨#[45]⟩] w fun e w' => e = .returned (.tuple #[.string s, .bool false]) ∧ w' = w := by
  go_enter Tryz.func81, Tryz.ntmps81
  go_wp2_with fail
  refine (cutPrefix0 s w hm).mono ?_
  rintro e w' ⟨rfl, rfl⟩
  go_wp2
  go_ret2
  exact ⟨rfl, rfl⟩
set_option maxHeartbeats 1000000 in
set_option maxRecDepth 20000 in
theorem scut1 (s : ByteArray) (w : World) (hs : s.size ≤ 1048576) (hm : minusB s = true) :
    Calls Tryz.prog 81 #[.string s, .string ⟨#[45]⟩] w fun e w' => e = .returned (.tuple #[.string (s.extract 1 s.size), .bool true]) ∧ w' = w := by
  go_enter Tryz.func81, Tryz.ntmps81
  go_wp2_with fail
  refine (cutPrefix1 s w hs hm).mono ?_
  rintro e w' ⟨rfl, rfl⟩
  go_wp2
  go_ret2
  exact ⟨rfl, rfl⟩
theorem minus_at (s : ByteArray) (h : 0 < s.size) : minusB s = (((s[0]'h).toNat : Int) == 45) := by
  unfold minusB
  rw [decide_eq_true (show 1 ≤ s.size from h), Bool.true_and, Lib.extract_toList]
  obtain ⟨⟨l⟩⟩ := s
  cases l with
  | nil => exact absurd h (Nat.lt_irrefl 0)
  | cons c l =>
    show ([c] == [45]) = ((c.toNat : Int) == 45)
    rw [Bool.eq_iff_iff]
    simp only [beq_iff_eq, List.cons.injEq, and_true]
    constructor
    · rintro rfl; rfl
    · intro h2
      have h3 : c.toNat = (45 : UInt8).toNat := by have : (45 : UInt8).toNat = 45 := rfl; omega
      exact UInt8.toNat_inj.1 h3
theorem minus_size {s : ByteArray} (h : minusB s = true) : 0 < s.size := by
  unfold minusB at h; rw [Bool.and_eq_true] at h; exact of_decide_eq_true h.1
theorem rest_size {s : ByteArray} : (s.extract 1 s.size).size = s.size - 1 := by
  rw [Lib.size_eq, Lib.extract_data, List.length_take, List.length_drop, ← Lib.size_eq]; omega
set_option maxHeartbeats 400000 in
set_option maxRecDepth 20000 in
/-- signed, of digits that are read. -/
theorem signed_rd {w : World} {s : Value} (neg : Bool) (n : Nat) (z : Int) (h : Rd w s (dig n)) (hz : (if neg then -(n : Int) else (n : Int)) = z) :
    Calls Tryz.prog 63 #[.bool neg, s] w fun e w' => ∃ v, e = .returned v ∧ ZC w' v z ∧ Below w.heap.size w w' := by
  subst hz
  have HSG := hide (sign_of neg n)
  have h' := h
  obtain ⟨oa, cap, rfl, hcap, _⟩ := h
  have H' := hide h'
  clear h'
  have hbl : ∀ o, Below w.heap.size w (w.alloc o) := fun o => (Below.refl _ _).alloc (Nat.le_refl _) o
  have e1 : ((n : Int)).natAbs = n := by simp
  have e2 : (-(n : Int)).natAbs = n := by simp
  have E := hide (And.intro e1 e2)
  clear e1 e2
  cases neg
  · go_enter Tryz.func63, Tryz.ntmps63
    go_wp2
    go_returns
    refine ⟨_, rfl, ⟨_, ?_, by rw [E.out.1]; exact H'.out.below (hbl _) (Nat.le_refl _)⟩, hbl _⟩
    rw [decide_eq_false (by omega : ¬ (n : Int) < 0)]
  · go_enter Tryz.func63, Tryz.ntmps63
    go_wp2
    go_returns
    refine ⟨_, rfl, ⟨_, ?_, by rw [E.out.2]; exact H'.out.below (hbl _) (Nat.le_refl _)⟩, hbl _⟩
    have h3 := HSG.out
    simp only [Bool.true_and, if_true] at h3
    rw [h3]
set_option maxHeartbeats 1000000 in
set_option maxRecDepth 20000 in
/-- zint.Parse of what is no number. -/
theorem zparse_bad (s : ByteArray) (w : World) (hs : s.size ≤ 65536) (d : ByteArray) (m : Bool)
    (hcut : ∀ w, Calls Tryz.prog 81 #[.string s, .string ⟨#[45]⟩] w fun e w' => e = .returned (.tuple #[.string d, .bool m]) ∧ w' = w) (hds : d.size ≤ 65536) (hd : digitsB d.data.toList = false) :
    Calls Tryz.prog 49 #[.string s] w fun e w' => e = .returned (.tuple #[.agg #[.bool false, .slice none 0 0], .int .i64 7]) ∧ Below w.heap.size w w' := by
  have e1 : parseI d = 7 := by unfold parseI; rw [if_neg (by omega), if_neg (by rw [hd]; exact Bool.false_ne_true)]
  have HP := hide (fun w => parse_any d w (by omega))
  rw [e1] at HP
  have HC := hide hcut
  have e7 : ((7 : Int) == 0) = false := rfl
  clear e1 hcut hd
  go_enter Tryz.func49, Tryz.ntmps49
  have hb := Below.refl w.heap.size w
  have hz := Bk.new w false (.slice none 0 0)
  replace hb := hb.alloc hb.size (.cells #[.bool false, (.slice none 0 0)] 26)
  go_wp2_with fail
  refine (HC.out _).mono ?_
  rintro e w' ⟨rfl, rfl⟩
  go_wp2_with fail
  refine (HP.out _).mono ?_
  rintro e w_1 ⟨v1, rfl, -, hb_1⟩
  replace hz := hz.below hb_1 (Nat.le_refl _)
  replace hb := hb.trans (hb_1.mono hb.size)
  clear hb_1
  have f_hz := hz.facts
  have ho := Bk.only w_1 (w.heap.size) false (.slice none 0 0)
  have hbx_ := hz.bx
  replace hz := hz.store false (.slice none 0 0)
  replace hb := (hb.setCell (p := ⟨w.heap.size, 0, none⟩) (show w.heap.size ≤ w.heap.size by first | assumption | (simp; done) | omega) (.bool false)).setCell (p := ⟨w.heap.size, 1, none⟩) (show w.heap.size ≤ w.heap.size by first | assumption | (simp; done) | omega) (.slice none 0 0)
  clear ho hbx_
  obtain ⟨w_2, hw_2⟩ : ∃ v, ((w_1.setCell ⟨w.heap.size, 0, none⟩ (.bool false)).setCell ⟨w.heap.size, 1, none⟩ (.slice none 0 0)) = v := ⟨_, rfl⟩
  rw [hw_2] at hz hb
  have f1 := hz.facts
  go_wp2
  refine bodyPost_ret (v := .tuple #[.agg #[.bool false, .slice none 0 0], .int .i64 7]) (by simp [results, Tryz.results49, go_sem, f1.1, f1.2.1]) rfl ?_
  exact ⟨rfl, hb⟩
set_option maxHeartbeats 1000000 in
set_option maxRecDepth 20000 in
/-- zint.Parse of a number. -/
theorem zparse_good (s : ByteArray) (w : World) (hs : s.size ≤ 65536) (d : ByteArray) (m : Bool) (z : Int)
    (hcut : ∀ w, Calls Tryz.prog 81 #[.string s, .string ⟨#[45]⟩] w fun e w' => e = .returned (.tuple #[.string d, .bool m]) ∧ w' = w) (hds : d.size ≤ 65536) (hd : digitsB d.data.toList = true)
    (hz' : (if m then -((pval d.data.toList : Nat) : Int) else ((pval d.data.toList : Nat) : Int)) = z) :
    Calls Tryz.prog 49 #[.string s] w fun e w' => ∃ v, e = .returned (.tuple #[v, .int .i64 0]) ∧ ZC w' v z ∧ Below w.heap.size w w' := by
  have e1 : parseI d = 0 := by unfold parseI; rw [if_neg (by omega), if_pos hd]
  have e2 : parseD d = dig (pval d.data.toList) := by unfold parseD; rw [if_neg (by omega), if_pos hd]
  have HP := hide (fun w => parse_any d w (by omega))
  rw [e1, e2] at HP
  have HC := hide hcut
  have HZ := hide hz'
  have e0 : ((0 : Int) == 0) = true := rfl
  clear e1 e2 hcut hd hz'
  go_enter Tryz.func49, Tryz.ntmps49
  have hb := Below.refl w.heap.size w
  have hz := Bk.new w false (.slice none 0 0)
  replace hb := hb.alloc hb.size (.cells #[.bool false, (.slice none 0 0)] 26)
  go_wp2_with fail
  refine (HC.out _).mono ?_
  rintro e w' ⟨rfl, rfl⟩
  go_wp2_with fail
  refine (HP.out _).mono ?_
  rintro e w_1 ⟨v1, rfl, g1, hb_1⟩
  replace hz := hz.below hb_1 (Nat.le_refl _)
  replace hb := hb.trans (hb_1.mono hb.size)
  clear hb_1
  go_wp2_with fail
  refine (signed_rd m _ z g1 HZ.out).mono ?_
  rintro e w_2 ⟨v2, rfl, g2, hb_2⟩
  replace hz := hz.below hb_2 (Nat.le_refl _)
  replace g1 := g1.below hb_2 (Nat.le_refl _)
  replace hb := hb.trans (hb_2.mono hb.size)
  clear hb_2
  clear g1
  obtain ⟨sb_hz, o_hz, n_hz, c_hz, rfl⟩ := g2.open2
  have f_hz := hz.facts
  have ho := Bk.only w_2 (w.heap.size) sb_hz (.slice o_hz n_hz c_hz)
  have hbx_ := hz.bx
  replace g2 := g2.frame hbx_ ho
  replace hz := hz.store sb_hz (.slice o_hz n_hz c_hz)
  replace hb := (hb.setCell (p := ⟨w.heap.size, 0, none⟩) (show w.heap.size ≤ w.heap.size by first | assumption | (simp; done) | omega) (.bool sb_hz)).setCell (p := ⟨w.heap.size, 1, none⟩) (show w.heap.size ≤ w.heap.size by first | assumption | (simp; done) | omega) (.slice o_hz n_hz c_hz)
  clear ho hbx_
  obtain ⟨w_3, hw_3⟩ : ∃ v, ((w_2.setCell ⟨w.heap.size, 0, none⟩ (.bool sb_hz)).setCell ⟨w.heap.size, 1, none⟩ (.slice o_hz n_hz c_hz)) = v := ⟨_, rfl⟩
  rw [hw_3] at hz g2 hb
  have f1 := hz.facts
  go_wp2
  refine bodyPost_ret (v := .tuple #[.agg #[.bool sb_hz, .slice o_hz n_hz c_hz], .int .i64 0]) (by simp [results, Tryz.results49, go_sem, f1.1, f1.2.1]) rfl ?_
  exact ⟨_, rfl, g2, hb⟩
set_option maxHeartbeats 1000000 in
set_option maxRecDepth 20000 in
/-- zint.Text of a number not below 0. -/
theorem ztext_pos {w : World} {v : Value} {z : Int} {l : Nat} (h : ZN w v z l) (hl : l ≤ 1000000000) (hz0 : 0 ≤ z) (htab : Lib.TabIs Tryz.prog w p10 .u64 Lib.pow10Tab) :
    Calls Tryz.prog 45 #[v] w fun e w' => e = .returned (.string ⟨(Lib.decDigits z.natAbs).toArray⟩) ∧ Below w.heap.size w w' := by
  have htabs := Lib.tabBelow_of_tabIs htab
  have hzn := h
  obtain ⟨neg, oa, cap, xs, rfl, hcap, hr, hz, hxl⟩ := h.open_
  have hv : val xs = z.natAbs := by rw [← hz, zv_abs]
  obtain ⟨G, hG⟩ : ∃ G, z.sign = G := ⟨_, rfl⟩
  have hG0 : 0 ≤ G := by rw [← hG]; rcases Int.lt_or_eq_of_le hz0 with h1 | h1; rw [Int.sign_eq_one_of_pos h1]; omega; rw [← h1]; decide
  have hG1 : (G < 0) = False := eq_false (by omega)
  have HV := hide (And.intro hv hG)
  obtain ⟨S, hS⟩ : ∃ S, Lib.decDigits z.natAbs = S := ⟨_, rfl⟩
  have HS := hide hS
  rw [hS]
  clear hz hv h hz0 hS hG
  go_enter Tryz.func45, Tryz.ntmps45
  have hb := Below.refl w.heap.size w
  have hp := Bk.new w neg (.slice oa xs.length cap)
  replace hr := hr.alloc (.cells #[.bool neg, (.slice oa xs.length cap)] 26)
  replace hzn := hzn.alloc (.cells #[.bool neg, (.slice oa xs.length cap)] 26)
  replace hb := hb.alloc hb.size (.cells #[.bool neg, (.slice oa xs.length cap)] 26)
  have f_hp := hp.facts
  go_wp2_with fail
  refine (text_rd hr (by omega) (htabs _ hb)).mono ?_
  rintro e w_1 ⟨rfl, hb_1⟩
  replace hr := hr.below hb_1 (Nat.le_refl _)
  replace hzn := hzn.below hb_1 (Nat.le_refl _)
  replace hp := hp.below hb_1 (Nat.le_refl _)
  replace hb := hb.trans (hb_1.mono hb.size)
  clear hb_1
  rw [HV.out.1, HS.out]
  clear f_hp
  have f_hp := hp.facts
  go_wp2_with fail
  refine (zsign_any hzn hl).mono ?_
  rintro e w_2 ⟨rfl, hb_2⟩
  replace hr := hr.below hb_2 (Nat.le_refl _)
  replace hzn := hzn.below hb_2 (Nat.le_refl _)
  replace hp := hp.below hb_2 (Nat.le_refl _)
  replace hb := hb.trans (hb_2.mono hb.size)
  clear hb_2
  rw [HV.out.2]
  go_wp2
  go_ret
  exact ⟨rfl, hb⟩
open Go
set_option linter.unusedVariables false
/-- Is a text a whole number's, and which? -/
def zok (s : ByteArray) : Bool := if minusB s = true then digitsB (s.extract 1 s.size).data.toList else digitsB s.data.toList
def zvl (s : ByteArray) : Int := if minusB s = true then -((pval (s.extract 1 s.size).data.toList : Nat) : Int) else ((pval s.data.toList : Nat) : Int)
theorem digits_all' {l : List UInt8} (h : digitsB l = true) : l.all isD = true := by unfold digitsB at h; rw [Bool.and_eq_true] at h; exact h.1
theorem digits_pos {s : ByteArray} (h : digitsB s.data.toList = true) : 0 < s.size := by
  rcases Nat.eq_zero_or_pos s.size with h0 | h0
  · rw [Lib.size_eq, List.length_eq_zero_iff] at h0
    rw [h0] at h
    exact absurd h (by decide)
  · exact h0
theorem zvl_len {s : ByteArray} (hs : s.size ≤ 65536) (h : zok s = true) : (dig (zvl s).natAbs).length ≤ 8192 := by
  unfold zok at h; unfold zvl
  have hr := rest_size (s := s)
  split
  · rename_i hm
    rw [if_pos hm] at h
    rw [Int.natAbs_neg, Int.natAbs_natCast]
    exact pval_dig_length (digits_all' h) (by rw [← Lib.size_eq]; omega)
  · rename_i hm
    rw [if_neg hm] at h
    rw [Int.natAbs_natCast]
    exact pval_dig_length (digits_all' h) (by rw [← Lib.size_eq]; omega)
theorem zparse_no (s : ByteArray) (w : World) (hs : s.size ≤ 65536) (h : zok s = false) :
    Calls Tryz.prog 49 #[.string s] w fun e w' => e = .returned (.tuple #[.agg #[.bool false, .slice none 0 0], .int .i64 7]) ∧ Below w.heap.size w w' := by
  unfold zok at h
  have hr := rest_size (s := s)
  cases hm : minusB s with
  | true => rw [if_pos hm] at h; exact zparse_bad s w hs _ true (fun w => scut1 s w (by omega) hm) (by omega) h
  | false => rw [if_neg (by rw [hm]; exact Bool.false_ne_true)] at h; exact zparse_bad s w hs _ false (fun w => scut0 s w hm) hs h
theorem zparse_ok (s : ByteArray) (w : World) (hs : s.size ≤ 65536) (h : zok s = true) :
    Calls Tryz.prog 49 #[.string s] w fun e w' => ∃ v, e = .returned (.tuple #[v, .int .i64 0]) ∧ ZC w' v (zvl s) ∧ Below w.heap.size w w' := by
  unfold zok at h
  unfold zvl
  have hr := rest_size (s := s)
  cases hm : minusB s with
  | true =>
    rw [if_pos hm] at h
    exact zparse_good s w hs _ true _ (fun w => scut1 s w (by omega) hm) (by omega) h rfl
  | false =>
    rw [if_neg (by rw [hm]; exact Bool.false_ne_true)] at h
    exact zparse_good s w hs _ false _ (fun w => scut0 s w hm) hs h rfl
open Go.Shelf
/-- The bytes of the ten digits. -/
def tens : List UInt8 := [48, 49, 50, 51, 52, 53, 54, 55, 56, 57]
/-- What is left of a text behind the digits it begins with. -/
def undig (l : List UInt8) : List UInt8 := Lib.trimLeftS l tens
theorem trimS_any (s : ByteArray) (w : World) :
    Calls Tryz.prog 80 #[.string s, .string ⟨#[48, 49, 50, 51, 52, 53, 54, 55, 56, 57]⟩] w fun e w' => e = .returned (.string ⟨(undig s.data.toList).toArray⟩) ∧ Below w.heap.size w w' :=
  Any.strings_TrimLeft_laid Tryz.lays161 (by kernel_rfl) s ⟨#[48, 49, 50, 51, 52, 53, 54, 55, 56, 57]⟩ w (by decide) (ascii_of_all (by decide))
/-- The norm. -/
def gN (x y : Int) : Int := x * x + y * y
theorem mul_self_nonneg' (x : Int) : 0 ≤ x * x := by
  rcases Int.le_total 0 x with h | h
  · exact Int.mul_nonneg h h
  · exact Int.mul_nonneg_of_nonpos_of_nonpos h h
section
variable {w : World} {va vb : Value} {x y u v : Int} {l m k n : Nat}
set_option maxHeartbeats 4000000 in
set_option maxRecDepth 20000 in
theorem gSub_any (ha : PN w va x l y m) (hq : PN w vb u k v n) (hl : l ≤ 100000000) (hm : m ≤ 100000000) (hk : k ≤ 100000000) (hn : n ≤ 100000000) :
    Calls Tryz.prog 40 #[va, vb] w fun e w' => ∃ r, e = .returned r ∧ PC w' r (x - u) (y - v) ∧ Below w.heap.size w w' := by
  obtain ⟨n_0a, o_0a, k_0a, c_0a, n_0b, o_0b, k_0b, c_0b, rfl, ha1, ha2⟩ := ha
  obtain ⟨n_1a, o_1a, k_1a, c_1a, n_1b, o_1b, k_1b, c_1b, rfl, hq1, hq2⟩ := hq
  go_enter Tryz.func40, Tryz.ntmps40
  have hs := St.nil w
  refine wp_seq_k ?_
  intro K1 hK1
  refine rg [0, 1, 2] ?_
  refine sq ?_
  refine .al hs ?_; clear hs; intro p_b1 w_1 hs n1 kb_b1
  refine sq ?_
  refine .al hs ?_; clear hs; intro p_b2 w_2 hs n2 kb_b2
  refine sq ?_
  refine .al hs ?_; clear hs; intro p_b3 w_3 hs n3 kb_b3
  apply wpSq_end
  refine hK1 _ _ ?_
  refine wp_seq_k ?_
  intro K2 hK2
  refine wp_region_f4 [(0, false), (1, false), (2, false), (3, false), (5, false), (6, false), (7, false), (8, false), (4, true), (9, true), (10, false)] [11] [] (fun _ => default) [99, 0, 99, 1, 99, 99, 0, 99, 1, 99, 99, 99] [] (.c hs.g2 (.c hs.g1 .n)) fn fun w_4 n4 => ?_
  replace hs := hs.bl n4
  refine f0 ?_
  refine f4 ?_
  refine f0 ?_
  refine f4 ?_
  refine f0 ?_
  refine f4 ?_
  refine f0 ?_
  refine f4 ?_
  refine fl fun w_5 n5 => ?_
  replace hs := hs.bl n5
  intro K hK
  have k0_5 := ((((kb n1).b n2).b n3).b n4).b n5
  replace ha1 := ha1.k k0_5
  replace hq1 := hq1.k k0_5
  go_big_op
  go_fit (zsub_any ha1 hq1 (by omega) (by omega) )
  rintro e w_6 ⟨v_g1, rfl, g1, hb_6⟩
  replace hs := hs.bl hb_6
  replace g1 := g1.rd
  obtain ⟨n_g1, o_g1, k_g1, c_g1, rfl⟩ := g1.open2
  have Lg1 := hide (g1.lenOf (zlen_sub (ha1.len) (hq1.len)))
  refine hK _ _ rfl ⟨hb_6, (And.intro hs.g2 (And.intro hs.g1 trivial))⟩ ?_
  clear hK K
  refine fl fun w_7 n7 => ?_
  replace hs := hs.bl n7
  intro K hK
  have k0_7 := (k0_5.b hb_6).b n7
  replace ha2 := ha2.k k0_7
  replace hq2 := hq2.k k0_7
  go_big_op
  go_fit (zsub_any ha2 hq2 (by omega) (by omega) )
  rintro e w_8 ⟨v_g2, rfl, g2, hb_8⟩
  replace hs := hs.bl hb_8
  replace g2 := g2.rd
  obtain ⟨n_g2, o_g2, k_g2, c_g2, rfl⟩ := g2.open2
  have Lg2 := hide (g2.lenOf (zlen_sub (ha2.len) (hq2.len)))
  refine hK _ _ rfl ⟨hb_8, (And.intro hs.g2 (And.intro hs.g1 trivial))⟩ ?_
  clear hK K
  refine f0 ?_
  refine e0 hs ?_; clear hs; intro w_9 hs n9
  refine tl ?_
  refine .s4 hs.g0 (fun _ => hs.u0 kb_b3) ?_ (e := fun _ hs => (And.intro hs.g2 (And.intro hs.g1 True.intro))); clear hs; intro w_10 hs hd10 ho10
  apply wpTail_end
  refine hK2 _ _ ?_
  refine wp_ret ?_
  try dsimp only [Exit.then, Exit.inBlock]
  obtain ⟨r0_0, r0_1, r0_2, r0_3⟩ := hs.g0.f4
  refine bodyPost_ret (v := (.agg #[.bool n_g1, .slice o_g1 k_g1 c_g1, .bool n_g2, .slice o_g2 k_g2 c_g2])) (by simp [results, Tryz.results40, go_sem, r0_0, r0_1, r0_2, r0_3]) rfl ?_
  have k6_10 := (((kb n7).b hb_8).b n9).o hd10 ho10
  replace g1 := g1.k k6_10
  have k8_10 := (kb n9).o hd10 ho10
  replace g2 := g2.k k8_10
  exact ⟨_, rfl, .mk' g1 g2, hs.b⟩
set_option maxHeartbeats 4000000 in
set_option maxRecDepth 20000 in
theorem gMul_any (ha : PN w va x l y m) (hq : PN w vb u k v n) (hl : l ≤ 40000000) (hm : m ≤ 40000000) (hk : k ≤ 40000000) (hn : n ≤ 40000000) :
    Calls Tryz.prog 24 #[va, vb] w fun e w' => ∃ r, e = .returned r ∧ PC w' r (x * u - y * v) (x * v + y * u) ∧ Below w.heap.size w w' := by
  obtain ⟨n_0a, o_0a, k_0a, c_0a, n_0b, o_0b, k_0b, c_0b, rfl, ha1, ha2⟩ := ha
  obtain ⟨n_1a, o_1a, k_1a, c_1a, n_1b, o_1b, k_1b, c_1b, rfl, hq1, hq2⟩ := hq
  go_enter Tryz.func24, Tryz.ntmps24
  have hs := St.nil w
  refine wp_seq_k ?_
  intro K1 hK1
  refine rg [0, 1, 2] ?_
  refine sq ?_
  refine .al hs ?_; clear hs; intro p_b1 w_1 hs n1 kb_b1
  refine sq ?_
  refine .al hs ?_; clear hs; intro p_b2 w_2 hs n2 kb_b2
  refine sq ?_
  refine .al hs ?_; clear hs; intro p_b3 w_3 hs n3 kb_b3
  apply wpSq_end
  refine hK1 _ _ ?_
  refine wp_seq_k ?_
  intro K2 hK2
  refine wp_region_f4 [(0, false), (1, false), (2, false), (3, false), (5, false), (6, false), (7, false), (8, false), (11, false), (12, false), (13, false), (14, false), (16, false), (17, false), (18, false), (19, false), (4, true), (9, true), (10, true), (15, true), (20, true), (21, true), (22, false)] [23] [] (fun _ => default) [99, 0, 99, 1, 99, 99, 0, 99, 1, 99, 99, 99, 0, 99, 1, 99, 99, 0, 99, 1, 99, 99, 99, 99] [] (.c hs.g2 (.c hs.g1 .n)) fn fun w_4 n4 => ?_
  replace hs := hs.bl n4
  refine f0 ?_
  refine f4 ?_
  refine f0 ?_
  refine f4 ?_
  refine f0 ?_
  refine f4 ?_
  refine f0 ?_
  refine f4 ?_
  refine f0 ?_
  refine f4 ?_
  refine f0 ?_
  refine f4 ?_
  refine f0 ?_
  refine f4 ?_
  refine f0 ?_
  refine f4 ?_
  refine fl fun w_5 n5 => ?_
  replace hs := hs.bl n5
  intro K hK
  have k0_5 := ((((kb n1).b n2).b n3).b n4).b n5
  replace ha1 := ha1.k k0_5
  replace hq1 := hq1.k k0_5
  go_big_op
  go_fit (zmul_any ha1 hq1 (by omega) (by omega) )
  rintro e w_6 ⟨v_g1, rfl, g1, hb_6⟩
  replace hs := hs.bl hb_6
  replace g1 := g1.rd
  obtain ⟨n_g1, o_g1, k_g1, c_g1, rfl⟩ := g1.open2
  have Lg1 := hide (g1.lenOf (zlen_mul (ha1.len) (hq1.len)))
  refine hK _ _ rfl ⟨hb_6, (And.intro hs.g2 (And.intro hs.g1 trivial))⟩ ?_
  clear hK K
  refine fl fun w_7 n7 => ?_
  replace hs := hs.bl n7
  intro K hK
  have k0_7 := (k0_5.b hb_6).b n7
  replace ha2 := ha2.k k0_7
  replace hq2 := hq2.k k0_7
  go_big_op
  go_fit (zmul_any ha2 hq2 (by omega) (by omega) )
  rintro e w_8 ⟨v_g2, rfl, g2, hb_8⟩
  replace hs := hs.bl hb_8
  replace g2 := g2.rd
  obtain ⟨n_g2, o_g2, k_g2, c_g2, rfl⟩ := g2.open2
  have Lg2 := hide (g2.lenOf (zlen_mul (ha2.len) (hq2.len)))
  refine hK _ _ rfl ⟨hb_8, (And.intro hs.g2 (And.intro hs.g1 trivial))⟩ ?_
  clear hK K
  refine fl fun w_9 n9 => ?_
  replace hs := hs.bl n9
  intro K hK
  have k6_9 := ((kb n7).b hb_8).b n9
  replace g1 := g1.k k6_9
  have k8_9 := kb n9
  replace g2 := g2.k k8_9
  go_big_op
  go_fit (zsub_any (g1.zn Lg1.out) (g2.zn Lg2.out) (by omega) (by omega) )
  rintro e w_10 ⟨v_g3, rfl, g3, hb_10⟩
  replace hs := hs.bl hb_10
  replace g3 := g3.rd
  obtain ⟨n_g3, o_g3, k_g3, c_g3, rfl⟩ := g3.open2
  have Lg3 := hide (g3.lenOf (zlen_sub (Lg1.out) (Lg2.out)))
  refine hK _ _ rfl ⟨hb_10, (And.intro hs.g2 (And.intro hs.g1 trivial))⟩ ?_
  clear hK K
  refine fl fun w_11 n11 => ?_
  replace hs := hs.bl n11
  intro K hK
  have k5_11 := (((((kb hb_6).b n7).b hb_8).b n9).b hb_10).b n11
  replace ha1 := ha1.k k5_11
  have k7_11 := (((kb hb_8).b n9).b hb_10).b n11
  replace hq2 := hq2.k k7_11
  go_big_op
  go_fit (zmul_any ha1 hq2 (by omega) (by omega) )
  rintro e w_12 ⟨v_g4, rfl, g4, hb_12⟩
  replace hs := hs.bl hb_12
  replace g4 := g4.rd
  obtain ⟨n_g4, o_g4, k_g4, c_g4, rfl⟩ := g4.open2
  have Lg4 := hide (g4.lenOf (zlen_mul (ha1.len) (hq2.len)))
  refine hK _ _ rfl ⟨hb_12, (And.intro hs.g2 (And.intro hs.g1 trivial))⟩ ?_
  clear hK K
  refine fl fun w_13 n13 => ?_
  replace hs := hs.bl n13
  intro K hK
  have k7_13 := (k7_11.b hb_12).b n13
  replace ha2 := ha2.k k7_13
  have k5_13 := (k5_11.b hb_12).b n13
  replace hq1 := hq1.k k5_13
  go_big_op
  go_fit (zmul_any ha2 hq1 (by omega) (by omega) )
  rintro e w_14 ⟨v_g5, rfl, g5, hb_14⟩
  replace hs := hs.bl hb_14
  replace g5 := g5.rd
  obtain ⟨n_g5, o_g5, k_g5, c_g5, rfl⟩ := g5.open2
  have Lg5 := hide (g5.lenOf (zlen_mul (ha2.len) (hq1.len)))
  refine hK _ _ rfl ⟨hb_14, (And.intro hs.g2 (And.intro hs.g1 trivial))⟩ ?_
  clear hK K
  refine fl fun w_15 n15 => ?_
  replace hs := hs.bl n15
  intro K hK
  have k12_15 := ((kb n13).b hb_14).b n15
  replace g4 := g4.k k12_15
  have k14_15 := kb n15
  replace g5 := g5.k k14_15
  go_big_op
  go_fit (zadd_any (g4.zn Lg4.out) (g5.zn Lg5.out) (by omega) (by omega) )
  rintro e w_16 ⟨v_g6, rfl, g6, hb_16⟩
  replace hs := hs.bl hb_16
  replace g6 := g6.rd
  obtain ⟨n_g6, o_g6, k_g6, c_g6, rfl⟩ := g6.open2
  have Lg6 := hide (g6.lenOf (zlen_add (Lg4.out) (Lg5.out)))
  refine hK _ _ rfl ⟨hb_16, (And.intro hs.g2 (And.intro hs.g1 trivial))⟩ ?_
  clear hK K
  refine f0 ?_
  refine e0 hs ?_; clear hs; intro w_17 hs n17
  refine tl ?_
  refine .s4 hs.g0 (fun _ => hs.u0 kb_b3) ?_ (e := fun _ hs => (And.intro hs.g2 (And.intro hs.g1 True.intro))); clear hs; intro w_18 hs hd18 ho18
  apply wpTail_end
  refine hK2 _ _ ?_
  refine wp_ret ?_
  try dsimp only [Exit.then, Exit.inBlock]
  obtain ⟨r0_0, r0_1, r0_2, r0_3⟩ := hs.g0.f4
  refine bodyPost_ret (v := (.agg #[.bool n_g3, .slice o_g3 k_g3 c_g3, .bool n_g6, .slice o_g6 k_g6 c_g6])) (by simp [results, Tryz.results24, go_sem, r0_0, r0_1, r0_2, r0_3]) rfl ?_
  have k10_18 := (((((((kb n11).b hb_12).b n13).b hb_14).b n15).b hb_16).b n17).o hd18 ho18
  replace g3 := g3.k k10_18
  have k16_18 := (kb n17).o hd18 ho18
  replace g6 := g6.k k16_18
  exact ⟨_, rfl, .mk' g3 g6, hs.b⟩
set_option maxHeartbeats 4000000 in
set_option maxRecDepth 20000 in
theorem gConj_any (ha : PN w va x l y m) (hl : l ≤ 100000000) (hm : m ≤ 100000000) :
    Calls Tryz.prog 70 #[va] w fun e w' => ∃ r, e = .returned r ∧ PC w' r x (-y) ∧ Below w.heap.size w w' := by
  have E := hide (Int.add_zero x)
  obtain ⟨n_0a, o_0a, k_0a, c_0a, n_0b, o_0b, k_0b, c_0b, rfl, ha1, ha2⟩ := ha
  go_enter Tryz.func70, Tryz.ntmps70
  have hs := St.nil w
  refine wp_seq_k ?_
  intro K1 hK1
  refine rg [0, 1] ?_
  refine sq ?_
  refine .al hs ?_; clear hs; intro p_b1 w_1 hs n1 kb_b1
  refine sq ?_
  refine .al hs ?_; clear hs; intro p_b2 w_2 hs n2 kb_b2
  apply wpSq_end
  refine hK1 _ _ ?_
  refine wp_seq_k ?_
  intro K2 hK2
  refine wp_region_f4 [(0, false), (1, false), (2, false), (4, false), (5, false), (3, true), (6, true), (7, false)] [8] [] (fun _ => default) [99, 0, 99, 99, 99, 0, 99, 99, 99] [] (.c hs.g1 .n) fn fun w_3 n3 => ?_
  replace hs := hs.bl n3
  refine f0 ?_
  refine f4 ?_
  refine f0 ?_
  refine f0 ?_
  refine f4 ?_
  refine fl fun w_4 n4 => ?_
  replace hs := hs.bl n4
  intro K hK
  have k0_4 := (((kb n1).b n2).b n3).b n4
  replace ha1 := ha1.k k0_4
  go_big_op
  go_fit (zadd_any ha1 ((zc_zero w_4).zn zlen_0) (by omega) (by omega) )
  rintro e w_5 ⟨v_g1, rfl, g1, hb_5⟩
  replace hs := hs.bl hb_5
  replace g1 := g1.rd
  obtain ⟨n_g1, o_g1, k_g1, c_g1, rfl⟩ := g1.open2
  have Lg1 := hide (g1.lenOf (zlen_add (ha1.len) (zlen_0)))
  rw [E.out] at g1
  refine hK _ _ rfl ⟨hb_5, (And.intro hs.g1 trivial)⟩ ?_
  clear hK K
  refine fl fun w_6 n6 => ?_
  replace hs := hs.bl n6
  intro K hK
  have k0_6 := (k0_4.b hb_5).b n6
  replace ha2 := ha2.k k0_6
  go_big_op
  go_fit (zneg_any ha2 (by omega) )
  rintro e w_7 ⟨v_g2, rfl, g2, hb_7⟩
  replace hs := hs.bl hb_7
  replace g2 := g2.rd
  obtain ⟨n_g2, o_g2, k_g2, c_g2, rfl⟩ := g2.open2
  have Lg2 := hide (g2.lenOf (zlen_neg (ha2.len)))
  refine hK _ _ rfl ⟨hb_7, (And.intro hs.g1 trivial)⟩ ?_
  clear hK K
  refine f0 ?_
  refine e0 hs ?_; clear hs; intro w_8 hs n8
  refine tl ?_
  refine .s4 hs.g0 (fun _ => hs.u0 kb_b2) ?_ (e := fun _ hs => (And.intro hs.g1 True.intro)); clear hs; intro w_9 hs hd9 ho9
  apply wpTail_end
  refine hK2 _ _ ?_
  refine wp_ret ?_
  try dsimp only [Exit.then, Exit.inBlock]
  obtain ⟨r0_0, r0_1, r0_2, r0_3⟩ := hs.g0.f4
  refine bodyPost_ret (v := (.agg #[.bool n_g1, .slice o_g1 k_g1 c_g1, .bool n_g2, .slice o_g2 k_g2 c_g2])) (by simp [results, Tryz.results70, go_sem, r0_0, r0_1, r0_2, r0_3]) rfl ?_
  have k5_9 := (((kb n6).b hb_7).b n8).o hd9 ho9
  replace g1 := g1.k k5_9
  have k7_9 := (kb n8).o hd9 ho9
  replace g2 := g2.k k7_9
  exact ⟨_, rfl, .mk' g1 g2, hs.b⟩
set_option maxHeartbeats 4000000 in
set_option maxRecDepth 20000 in
theorem gNorm_any (ha : PN w va x l y m) (hl : l ≤ 40000000) (hm : m ≤ 40000000) :
    Calls Tryz.prog 7 #[va] w fun e w' => ∃ r, e = .returned r ∧ ZC w' r (gN x y) ∧ Below w.heap.size w w' := by
  unfold gN
  obtain ⟨n_0a, o_0a, k_0a, c_0a, n_0b, o_0b, k_0b, c_0b, rfl, ha1, ha2⟩ := ha
  go_enter Tryz.func7, Tryz.ntmps7
  have hs := St.nil w
  refine wp_seq_k ?_
  intro K1 hK1
  refine rg [0, 1] ?_
  refine sq ?_
  refine .al hs ?_; clear hs; intro p_b1 w_1 hs n1 kb_b1
  refine sq ?_
  refine .al hs ?_; clear hs; intro p_b2 w_2 hs n2 kb_b2
  apply wpSq_end
  refine hK1 _ _ ?_
  refine wp_seq_k ?_
  intro K2 hK2
  refine wp_region_f4 [(0, false), (1, false), (2, false), (3, false), (5, false), (6, false), (7, false), (8, false), (4, true), (9, true), (10, true)] [11] [] (fun _ => default) [99, 0, 99, 0, 99, 99, 0, 99, 0, 99, 99, 99] [] (.c hs.g1 .n) fn fun w_3 n3 => ?_
  replace hs := hs.bl n3
  refine f0 ?_
  refine f4 ?_
  refine f0 ?_
  refine f4 ?_
  refine f0 ?_
  refine f4 ?_
  refine f0 ?_
  refine f4 ?_
  refine fl fun w_4 n4 => ?_
  replace hs := hs.bl n4
  intro K hK
  have k0_4 := (((kb n1).b n2).b n3).b n4
  replace ha1 := ha1.k k0_4
  go_big_op
  go_fit (zmul_any ha1 ha1 (by omega) (by omega) )
  rintro e w_5 ⟨v_g1, rfl, g1, hb_5⟩
  replace hs := hs.bl hb_5
  replace g1 := g1.rd
  obtain ⟨n_g1, o_g1, k_g1, c_g1, rfl⟩ := g1.open2
  have Lg1 := hide (g1.lenOf (zlen_mul (ha1.len) (ha1.len)))
  refine hK _ _ rfl ⟨hb_5, (And.intro hs.g1 trivial)⟩ ?_
  clear hK K
  refine fl fun w_6 n6 => ?_
  replace hs := hs.bl n6
  intro K hK
  have k0_6 := (k0_4.b hb_5).b n6
  replace ha2 := ha2.k k0_6
  go_big_op
  go_fit (zmul_any ha2 ha2 (by omega) (by omega) )
  rintro e w_7 ⟨v_g2, rfl, g2, hb_7⟩
  replace hs := hs.bl hb_7
  replace g2 := g2.rd
  obtain ⟨n_g2, o_g2, k_g2, c_g2, rfl⟩ := g2.open2
  have Lg2 := hide (g2.lenOf (zlen_mul (ha2.len) (ha2.len)))
  refine hK _ _ rfl ⟨hb_7, (And.intro hs.g1 trivial)⟩ ?_
  clear hK K
  refine fl fun w_8 n8 => ?_
  replace hs := hs.bl n8
  intro K hK
  have k5_8 := ((kb n6).b hb_7).b n8
  replace g1 := g1.k k5_8
  have k7_8 := kb n8
  replace g2 := g2.k k7_8
  go_big_op
  go_fit (zadd_any (g1.zn Lg1.out) (g2.zn Lg2.out) (by omega) (by omega) )
  rintro e w_9 ⟨v_g3, rfl, g3, hb_9⟩
  replace hs := hs.bl hb_9
  replace g3 := g3.rd
  obtain ⟨n_g3, o_g3, k_g3, c_g3, rfl⟩ := g3.open2
  have Lg3 := hide (g3.lenOf (zlen_add (Lg1.out) (Lg2.out)))
  refine hK _ _ rfl ⟨hb_9, (And.intro hs.g1 trivial)⟩ ?_
  clear hK K
  refine e0 hs ?_; clear hs; intro w_10 hs n10
  refine tl ?_
  refine .s2 hs.g0 (fun _ => hs.u0 kb_b2) ?_ (e := fun _ hs => (And.intro hs.g1 True.intro)); clear hs; intro w_11 hs hd11 ho11
  apply wpTail_end
  refine hK2 _ _ ?_
  refine wp_ret ?_
  try dsimp only [Exit.then, Exit.inBlock]
  obtain ⟨r0_0, r0_1⟩ := hs.g0.f2
  refine bodyPost_ret (v := (.agg #[.bool n_g3, .slice o_g3 k_g3 c_g3])) (by simp [results, Tryz.results7, go_sem, r0_0, r0_1]) rfl ?_
  have k9_11 := (kb n10).o hd11 ho11
  replace g3 := g3.k k9_11
  exact ⟨_, rfl, g3, hs.b⟩
end
/-- The parts of a conj(b), of the nearest quotient, of the rest. -/
def gT1 (x y u v : Int) : Int := x * u - y * -v
def gT2 (x y u v : Int) : Int := x * -v + y * u
def gQ1 (x y u v : Int) : Int := rnd (gT1 x y u v) (gN u v)
def gQ2 (x y u v : Int) : Int := rnd (gT2 x y u v) (gN u v)
def gR1 (x y u v : Int) : Int := x - (gQ1 x y u v * u - gQ2 x y u v * v)
def gR2 (x y u v : Int) : Int := y - (gQ1 x y u v * v + gQ2 x y u v * u)
theorem gN_zero {u v : Int} : gN u v = 0 ↔ u = 0 ∧ v = 0 := by
  unfold gN
  have h1 := mul_self_nonneg' u
  have h2 := mul_self_nonneg' v
  constructor
  · intro h
    have e1 : u * u = 0 := by omega
    have e2 : v * v = 0 := by omega
    exact ⟨(Int.mul_eq_zero.1 e1).elim id id, (Int.mul_eq_zero.1 e2).elim id id⟩
  · rintro ⟨rfl, rfl⟩; rfl
theorem gN_nonneg (u v : Int) : 0 ≤ gN u v := by
  unfold gN; have h1 := mul_self_nonneg' u; have h2 := mul_self_nonneg' v; omega
theorem zlen_gN {u v : Int} {l m : Nat} (h1 : (dig u.natAbs).length ≤ l) (h2 : (dig v.natAbs).length ≤ m) : (dig (gN u v).natAbs).length ≤ (l + l) + (m + m) + 1 := zlen_add (zlen_mul h1 h1) (zlen_mul h2 h2)
theorem zlen_gT1 {x y u v : Int} {l m k n : Nat} (h1 : (dig x.natAbs).length ≤ l) (h2 : (dig y.natAbs).length ≤ m) (h3 : (dig u.natAbs).length ≤ k) (h4 : (dig v.natAbs).length ≤ n) :
    (dig (gT1 x y u v).natAbs).length ≤ (l + k) + (m + n) + 1 := zlen_sub (zlen_mul h1 h3) (zlen_mul h2 (zlen_neg h4))
theorem zlen_gT2 {x y u v : Int} {l m k n : Nat} (h1 : (dig x.natAbs).length ≤ l) (h2 : (dig y.natAbs).length ≤ m) (h3 : (dig u.natAbs).length ≤ k) (h4 : (dig v.natAbs).length ≤ n) :
    (dig (gT2 x y u v).natAbs).length ≤ (l + n) + (m + k) + 1 := zlen_add (zlen_mul h1 (zlen_neg h4)) (zlen_mul h2 h3)
theorem zlen_gR1 {x y u v : Int} {l m k n : Nat} (h1 : (dig x.natAbs).length ≤ l) (h2 : (dig y.natAbs).length ≤ m) (h3 : (dig u.natAbs).length ≤ k) (h4 : (dig v.natAbs).length ≤ n) (h0 : gN u v ≠ 0) :
    (dig (gR1 x y u v).natAbs).length ≤ l + (((l + k) + (m + n) + 1 + 1 + k) + ((l + n) + (m + k) + 1 + 1 + n) + 1) + 1 :=
  zlen_sub h1 (zlen_sub (zlen_mul (rnd_len h0 (zlen_gT1 h1 h2 h3 h4)) h3) (zlen_mul (rnd_len h0 (zlen_gT2 h1 h2 h3 h4)) h4))
theorem zlen_gR2 {x y u v : Int} {l m k n : Nat} (h1 : (dig x.natAbs).length ≤ l) (h2 : (dig y.natAbs).length ≤ m) (h3 : (dig u.natAbs).length ≤ k) (h4 : (dig v.natAbs).length ≤ n) (h0 : gN u v ≠ 0) :
    (dig (gR2 x y u v).natAbs).length ≤ m + (((l + k) + (m + n) + 1 + 1 + n) + ((l + n) + (m + k) + 1 + 1 + k) + 1) + 1 :=
  zlen_sub h2 (zlen_add (zlen_mul (rnd_len h0 (zlen_gT1 h1 h2 h3 h4)) h4) (zlen_mul (rnd_len h0 (zlen_gT2 h1 h2 h3 h4)) h3))
section
variable {w : World} {va vb : Value} {x y u v : Int} {l m k n : Nat}
set_option maxHeartbeats 4000000 in
set_option maxRecDepth 20000 in
theorem overNorm_any (ha : PN w va x l y m) (hq : PN w vb u k v n) (hl : l ≤ 30000000) (hm : m ≤ 30000000) (hk : k ≤ 30000000) (hn : n ≤ 30000000) :
    Calls Tryz.prog 37 #[va, vb] w fun e w' => ∃ r s, e = .returned (.tuple #[r, s]) ∧ PC w' r (gT1 x y u v) (gT2 x y u v) ∧ ZC w' s (gN u v) ∧ Below w.heap.size w w' := by
  unfold gT1 gT2
  obtain ⟨n_0a, o_0a, k_0a, c_0a, n_0b, o_0b, k_0b, c_0b, rfl, ha1, ha2⟩ := ha
  obtain ⟨n_1a, o_1a, k_1a, c_1a, n_1b, o_1b, k_1b, c_1b, rfl, hq1, hq2⟩ := hq
  go_enter Tryz.func37, Tryz.ntmps37
  have hs := St.nil w
  refine wp_seq_k ?_
  intro K1 hK1
  refine rg [0, 1, 2, 3] ?_
  refine sq ?_
  refine .al hs ?_; clear hs; intro p_b1 w_1 hs n1 kb_b1
  refine sq ?_
  refine .al hs ?_; clear hs; intro p_b2 w_2 hs n2 kb_b2
  refine sq ?_
  refine .al hs ?_; clear hs; intro p_b3 w_3 hs n3 kb_b3
  refine sq ?_
  refine .al hs ?_; clear hs; intro p_b4 w_4 hs n4 kb_b4
  apply wpSq_end
  refine hK1 _ _ ?_
  refine wp_seq_k ?_
  intro K2 hK2
  refine wp_region_f4 [(0, false), (1, false), (4, false), (2, true), (3, true), (5, true)] [6, 7] [] (fun _ => default) [0, 1, 99, 99, 1, 99, 99, 99] [] (.c hs.g3 (.c hs.g2 .n)) fn fun w_5 n5 => ?_
  replace hs := hs.bl n5
  refine f4 ?_
  refine f4 ?_
  refine f4 ?_
  refine fl fun w_6 n6 => ?_
  replace hs := hs.bl n6
  intro K hK
  have k0_6 := (((((kb n1).b n2).b n3).b n4).b n5).b n6
  replace hq1 := hq1.k k0_6
  replace hq2 := hq2.k k0_6
  go_big_op
  go_fit (gConj_any (PN.mk' hq1 hq2) (by omega) (by omega) )
  rintro e w_7 ⟨_, rfl, ⟨n_g1a, o_g1a, k_g1a, c_g1a, n_g1b, o_g1b, k_g1b, c_g1b, rfl, g11, g12⟩, hb_7⟩
  replace hs := hs.bl hb_7
  have Lg11 := hide (g11.lenOf ((hq1.len)))
  have Lg12 := hide (g12.lenOf (zlen_neg (hq2.len)))
  refine hK _ _ rfl ⟨hb_7, (And.intro hs.g3 (And.intro hs.g2 trivial))⟩ ?_
  clear hK K
  refine fl fun w_8 n8 => ?_
  replace hs := hs.bl n8
  intro K hK
  have k0_8 := (k0_6.b hb_7).b n8
  replace ha1 := ha1.k k0_8
  replace ha2 := ha2.k k0_8
  have k7_8 := kb n8
  replace g11 := g11.k k7_8
  replace g12 := g12.k k7_8
  go_big_op
  go_fit (gMul_any (PN.mk' ha1 ha2) (PN.mk' (g11.zn Lg11.out) (g12.zn Lg12.out)) (by omega) (by omega) (by omega) (by omega) )
  rintro e w_9 ⟨_, rfl, ⟨n_g2a, o_g2a, k_g2a, c_g2a, n_g2b, o_g2b, k_g2b, c_g2b, rfl, g21, g22⟩, hb_9⟩
  replace hs := hs.bl hb_9
  have Lg21 := hide (g21.lenOf (zlen_sub (zlen_mul (ha1.len) (Lg11.out)) (zlen_mul (ha2.len) (Lg12.out))))
  have Lg22 := hide (g22.lenOf (zlen_add (zlen_mul (ha1.len) (Lg12.out)) (zlen_mul (ha2.len) (Lg11.out))))
  refine hK _ _ rfl ⟨hb_9, (And.intro hs.g3 (And.intro hs.g2 trivial))⟩ ?_
  clear hK K
  refine fl fun w_10 n10 => ?_
  replace hs := hs.bl n10
  intro K hK
  have k6_10 := (((kb hb_7).b n8).b hb_9).b n10
  replace hq1 := hq1.k k6_10
  replace hq2 := hq2.k k6_10
  go_big_op
  go_fit (gNorm_any (PN.mk' hq1 hq2) (by omega) (by omega) )
  rintro e w_11 ⟨v_g3, rfl, g3, hb_11⟩
  replace hs := hs.bl hb_11
  obtain ⟨n_g3, o_g3, k_g3, c_g3, rfl⟩ := g3.open2
  have Lg3 := hide (g3.lenOf (zlen_add (zlen_mul (hq1.len) (hq1.len)) (zlen_mul (hq2.len) (hq2.len))))
  refine hK _ _ rfl ⟨hb_11, (And.intro hs.g3 (And.intro hs.g2 trivial))⟩ ?_
  clear hK K
  refine e0 hs ?_; clear hs; intro w_12 hs n12
  refine tl ?_
  refine .s4 hs.g1 (fun _ => hs.u1 kb_b3) ?_ (e := fun _ hs => (And.intro hs.g3 (And.intro hs.g2 True.intro))); clear hs; intro w_13 hs hd13 ho13
  refine tl ?_
  refine .s2 hs.g0 (fun _ => hs.u0 kb_b4) ?_ (e := fun _ hs => (And.intro hs.g3 (And.intro hs.g2 True.intro))); clear hs; intro w_14 hs hd14 ho14
  apply wpTail_end
  refine hK2 _ _ ?_
  refine wp_ret ?_
  try dsimp only [Exit.then, Exit.inBlock]
  obtain ⟨r0_0, r0_1, r0_2, r0_3⟩ := hs.g1.f4
  obtain ⟨r4_0, r4_1⟩ := hs.g0.f2
  refine bodyPost_ret (v := (.tuple #[(.agg #[.bool n_g2a, .slice o_g2a k_g2a c_g2a, .bool n_g2b, .slice o_g2b k_g2b c_g2b]), (.agg #[.bool n_g3, .slice o_g3 k_g3 c_g3])])) (by simp [results, Tryz.results37, go_sem, r0_0, r0_1, r0_2, r0_3, r4_0, r4_1]) rfl ?_
  have k9_14 := ((((kb n10).b hb_11).b n12).o hd13 ho13).o hd14 ho14
  replace g21 := g21.k k9_14
  replace g22 := g22.k k9_14
  have k11_14 := ((kb n12).o hd13 ho13).o hd14 ho14
  replace g3 := g3.k k11_14
  exact ⟨_, _, rfl, .mk' g21 g22, g3, hs.b⟩
set_option maxHeartbeats 4000000 in
set_option maxRecDepth 20000 in
theorem gRound_any (ha : PN w va x l y m) (hq : PN w vb u k v n) (hl : l ≤ 8000000) (hm : m ≤ 8000000) (hk : k ≤ 8000000) (hn : n ≤ 8000000) (h0 : gN u v ≠ 0) :
    Calls Tryz.prog 36 #[va, vb] w fun e w' => ∃ r s, e = .returned (.tuple #[r, s, .int .i64 0]) ∧ PC w' r (gQ1 x y u v) (gQ2 x y u v) ∧ PC w' s (gR1 x y u v) (gR2 x y u v) ∧ Below w.heap.size w w' := by
  have H0 := hide h0
  clear h0
  unfold gR1 gR2 gQ1 gQ2
  obtain ⟨n_0a, o_0a, k_0a, c_0a, n_0b, o_0b, k_0b, c_0b, rfl, ha1, ha2⟩ := ha
  obtain ⟨n_1a, o_1a, k_1a, c_1a, n_1b, o_1b, k_1b, c_1b, rfl, hq1, hq2⟩ := hq
  go_enter Tryz.func36, Tryz.ntmps36
  have hs := St.nil w
  refine wp_seq_k ?_
  intro K1 hK1
  refine rg [0, 1, 2, 3, 4] ?_
  refine sq ?_
  refine .al hs ?_; clear hs; intro p_b1 w_1 hs n1 kb_b1
  refine sq ?_
  refine .al hs ?_; clear hs; intro p_b2 w_2 hs n2 kb_b2
  refine sq ?_
  refine .al hs ?_; clear hs; intro p_b3 w_3 hs n3 kb_b3
  refine sq ?_
  refine .al hs ?_; clear hs; intro p_b4 w_4 hs n4 kb_b4
  refine sq ?_
  refine .mv ?_
  apply wpSq_end
  refine hK1 _ _ ?_
  refine wp_seq_k ?_
  intro K2 hK2
  refine rg [0, 1, 2, 3, 4, 5, 6, 7, 8, 9] ?_
  refine sq ?_
  refine .r4 hs.g3.f4 ?_
  refine sq ?_
  refine .r4 hs.g2.f4 ?_
  refine sq ?_
  intro K hK
  have k0_4 := (((kb n1).b n2).b n3).b n4
  replace ha1 := ha1.k k0_4
  replace ha2 := ha2.k k0_4
  replace hq1 := hq1.k k0_4
  replace hq2 := hq2.k k0_4
  go_big_op
  go_fit (overNorm_any (PN.mk' ha1 ha2) (PN.mk' hq1 hq2) (by omega) (by omega) (by omega) (by omega) )
  rintro e w_5 ⟨_, v_g2, rfl, ⟨n_g1a, o_g1a, k_g1a, c_g1a, n_g1b, o_g1b, k_g1b, c_g1b, rfl, g11, g12⟩, g2, hb_5⟩
  replace hs := hs.bl hb_5
  obtain ⟨n_g2, o_g2, k_g2, c_g2, rfl⟩ := g2.open2
  have Lg11 := hide (g11.lenOf (zlen_gT1 (ha1.len) (ha2.len) (hq1.len) (hq2.len)))
  have Lg12 := hide (g12.lenOf (zlen_gT2 (ha1.len) (ha2.len) (hq1.len) (hq2.len)))
  have Lg2 := hide (g2.lenOf (zlen_gN (hq1.len) (hq2.len)))
  refine hK _ _ rfl trivial ?_
  clear hK K
  refine sq ?_
  refine .mv ?_
  refine sq ?_
  refine .r0 ?_
  refine sq ?_
  refine .r0 ?_
  refine sq ?_
  refine .al hs ?_; clear hs; intro p_b5 w_6 hs n6 kb_b5
  refine sq ?_
  refine .al hs ?_; clear hs; intro p_b6 w_7 hs n7 kb_b6
  refine sq ?_
  refine .s4 hs.g1 (fun _ => hs.u1 kb_b5) ?_; clear hs; intro w_8 hs hd8 ho8
  refine sq ?_
  refine .s2 hs.g0 (fun _ => hs.u0 kb_b6) ?_; clear hs; intro w_9 hs hd9 ho9
  apply wpSq_end
  refine hK2 _ _ ?_
  refine wp_seq_k ?_
  intro K3 hK3
  refine rg [0, 1, 2, 3, 4, 5, 6, 7, 8, 9, 10, 11, 12] ?_
  refine sq ?_
  refine .r0 ?_
  refine sq ?_
  refine .r4 hs.g1.f4 ?_
  refine sq ?_
  refine .r2 hs.g0.f2 ?_
  refine sq ?_
  intro K hK
  have k5_9 := (((kb n6).b n7).o hd8 ho8).o hd9 ho9
  replace g11 := g11.k k5_9
  replace g2 := g2.k k5_9
  go_big_op
  go_fit (rdiv_any (g11.zn Lg11.out) (g2.zn Lg2.out) (by omega) (by omega) H0.out)
  rintro e w_10 ⟨v_g3, v_g4, rfl, g3, g4, hb_10⟩
  replace hs := hs.bl hb_10
  replace g3 := g3.rd
  obtain ⟨n_g3, o_g3, k_g3, c_g3, rfl⟩ := g3.open2
  replace g4 := g4.rd
  obtain ⟨n_g4, o_g4, k_g4, c_g4, rfl⟩ := g4.open2
  have Lg3 := hide (g3.lenOf (rnd_len (H0.out) (Lg11.out)))
  have Lg4 := hide (g4.lenOf (rrest_len (H0.out) (Lg2.out)))
  refine hK _ _ rfl trivial ?_
  clear hK K
  refine sq ?_
  refine .mv ?_
  refine sq ?_
  refine .r0 ?_
  refine sq ?_
  refine .r0 ?_
  refine sq ?_
  refine .r0 ?_
  refine sq ?_
  refine .al hs ?_; clear hs; intro p_b7 w_11 hs n11 kb_b7
  refine sq ?_
  refine .al hs ?_; clear hs; intro p_b8 w_12 hs n12 kb_b8
  refine sq ?_
  refine .s2 hs.g1 (fun _ => hs.u1 kb_b7) ?_; clear hs; intro w_13 hs hd13 ho13
  refine sq ?_
  refine .s2 hs.g0 (fun _ => hs.u0 kb_b8) ?_; clear hs; intro w_14 hs hd14 ho14
  refine sq ?_
  refine .mv ?_
  apply wpSq_end
  refine hK3 _ _ ?_
  refine wp_seq_k ?_
  intro K4 hK4
  refine wp_seq_k ?_
  intro K5 hK5
  refine rg [0, 1] ?_
  refine sq ?_
  refine .mv ?_
  refine sq ?_
  refine .r0 ?_
  apply wpSq_end
  refine hK5 _ _ ?_
  refine cf ?_
  refine wp_skip ?_
  refine hK4 _ _ ?_
  refine wp_seq_k ?_
  intro K6 hK6
  refine rg [0, 1, 2, 3, 4, 5, 6, 7, 8, 9, 10, 11, 12] ?_
  refine sq ?_
  refine .r0 ?_
  refine sq ?_
  refine .r4 hs.g3.f4 ?_
  refine sq ?_
  refine .r2 hs.g2.f2 ?_
  refine sq ?_
  intro K hK
  have k5_14 := ((((k5_9.b hb_10).b n11).b n12).o hd13 ho13).o hd14 ho14
  replace g12 := g12.k k5_14
  have k9_14 := ((((kb hb_10).b n11).b n12).o hd13 ho13).o hd14 ho14
  replace g2 := g2.k k9_14
  go_big_op
  go_fit (rdiv_any (g12.zn Lg12.out) (g2.zn Lg2.out) (by omega) (by omega) H0.out)
  rintro e w_15 ⟨v_g5, v_g6, rfl, g5, g6, hb_15⟩
  replace hs := hs.bl hb_15
  replace g5 := g5.rd
  obtain ⟨n_g5, o_g5, k_g5, c_g5, rfl⟩ := g5.open2
  replace g6 := g6.rd
  obtain ⟨n_g6, o_g6, k_g6, c_g6, rfl⟩ := g6.open2
  have Lg5 := hide (g5.lenOf (rnd_len (H0.out) (Lg12.out)))
  have Lg6 := hide (g6.lenOf (rrest_len (H0.out) (Lg2.out)))
  refine hK _ _ rfl trivial ?_
  clear hK K
  refine sq ?_
  refine .mv ?_
  refine sq ?_
  refine .r0 ?_
  refine sq ?_
  refine .r0 ?_
  refine sq ?_
  refine .r0 ?_
  refine sq ?_
  refine .al hs ?_; clear hs; intro p_b9 w_16 hs n16 kb_b9
  refine sq ?_
  refine .al hs ?_; clear hs; intro p_b10 w_17 hs n17 kb_b10
  refine sq ?_
  refine .s2 hs.g1 (fun _ => hs.u1 kb_b9) ?_; clear hs; intro w_18 hs hd18 ho18
  refine sq ?_
  refine .s2 hs.g0 (fun _ => hs.u0 kb_b10) ?_; clear hs; intro w_19 hs hd19 ho19
  refine sq ?_
  refine .mv ?_
  apply wpSq_end
  refine hK6 _ _ ?_
  refine wp_seq_k ?_
  intro K7 hK7
  refine rg [0, 1, 2, 3] ?_
  refine sq ?_
  refine .r2 hs.g3.f2 ?_
  refine sq ?_
  refine .r2 hs.g1.f2 ?_
  refine sq ?_
  refine .r0 ?_
  refine sq ?_
  refine .s4 hs.g7 (fun _ => hs.u7 kb_b3) ?_; clear hs; intro w_20 hs hd20 ho20
  apply wpSq_end
  refine hK7 _ _ ?_
  refine wp_seq_k ?_
  intro K8 hK8
  refine wp_region_f4 [(0, false), (1, false), (2, false), (3, false), (4, true), (5, true)] [6, 7, 8] [] (fun _ => default) [0, 1, 0, 2, 99, 99, 99, 99, 99] [(6, 0), (7, 0), (8, 0)] (.c hs.g7 (.c hs.g9 (.c hs.g8 .n))) fn fun w_21 n21 => ?_
  replace hs := hs.bl n21
  refine f4 ?_
  refine f4 ?_
  refine f4 ?_
  refine f4 ?_
  refine fl fun w_22 n22 => ?_
  replace hs := hs.bl n22
  intro K hK
  have k10_22 := (((((((((((kb n11).b n12).o hd13 ho13).o hd14 ho14).b hb_15).b n16).b n17).o hd18 ho18).o hd19 ho19).o hd20 ho20).b n21).b n22
  replace g3 := g3.k k10_22
  have k15_22 := ((((((kb n16).b n17).o hd18 ho18).o hd19 ho19).o hd20 ho20).b n21).b n22
  replace g5 := g5.k k15_22
  have k4_22 := (((((((((((((((((kb hb_5).b n6).b n7).o hd8 ho8).o hd9 ho9).b hb_10).b n11).b n12).o hd13 ho13).o hd14 ho14).b hb_15).b n16).b n17).o hd18 ho18).o hd19 ho19).o hd20 ho20).b n21).b n22
  replace hq1 := hq1.k k4_22
  replace hq2 := hq2.k k4_22
  go_big_op
  go_fit (gMul_any (PN.mk' (g3.zn Lg3.out) (g5.zn Lg5.out)) (PN.mk' hq1 hq2) (by omega) (by omega) (by omega) (by omega) )
  rintro e w_23 ⟨_, rfl, ⟨n_g7a, o_g7a, k_g7a, c_g7a, n_g7b, o_g7b, k_g7b, c_g7b, rfl, g71, g72⟩, hb_23⟩
  replace hs := hs.bl hb_23
  have Lg71 := hide (g71.lenOf (zlen_sub (zlen_mul (Lg3.out) (hq1.len)) (zlen_mul (Lg5.out) (hq2.len))))
  have Lg72 := hide (g72.lenOf (zlen_add (zlen_mul (Lg3.out) (hq2.len)) (zlen_mul (Lg5.out) (hq1.len))))
  refine hK _ _ rfl ⟨hb_23, (And.intro hs.g7 (And.intro hs.g9 (And.intro hs.g8 trivial)))⟩ ?_
  clear hK K
  refine fl fun w_24 n24 => ?_
  replace hs := hs.bl n24
  intro K hK
  have k4_24 := (k4_22.b hb_23).b n24
  replace ha1 := ha1.k k4_24
  replace ha2 := ha2.k k4_24
  have k23_24 := kb n24
  replace g71 := g71.k k23_24
  replace g72 := g72.k k23_24
  go_big_op
  go_fit (gSub_any (PN.mk' ha1 ha2) (PN.mk' (g71.zn Lg71.out) (g72.zn Lg72.out)) (by omega) (by omega) (by omega) (by omega) )
  rintro e w_25 ⟨_, rfl, ⟨n_g8a, o_g8a, k_g8a, c_g8a, n_g8b, o_g8b, k_g8b, c_g8b, rfl, g81, g82⟩, hb_25⟩
  replace hs := hs.bl hb_25
  have Lg81 := hide (g81.lenOf (zlen_sub (ha1.len) (Lg71.out)))
  have Lg82 := hide (g82.lenOf (zlen_sub (ha2.len) (Lg72.out)))
  refine hK _ _ rfl ⟨hb_25, (And.intro hs.g7 (And.intro hs.g9 (And.intro hs.g8 trivial)))⟩ ?_
  clear hK K
  refine e0 hs ?_; clear hs; intro w_26 hs n26
  clear g11 g4 g12 g2 g6 g71 g72
  refine tl ?_
  refine .s4 hs.g7 (fun _ => hs.u7 kb_b3) ?_ (e := fun _ hs => (And.intro True.intro (And.intro hs.g9 (And.intro hs.g8 True.intro)))); clear hs; intro w_27 hs hd27 ho27
  refine tl ?_
  refine .s4 hs.g6 (fun _ => hs.u6 kb_b4) ?_ (e := fun _ hs => (And.intro True.intro (And.intro hs.g9 (And.intro hs.g8 True.intro)))); clear hs; intro w_28 hs hd28 ho28
  refine tl ?_
  refine .mv ?_ (e := (And.intro True.intro (And.intro hs.g9 (And.intro hs.g8 True.intro))))
  apply wpTail_end
  refine hK8 _ _ ?_
  refine wp_ret ?_
  try dsimp only [Exit.then, Exit.inBlock]
  obtain ⟨r0_0, r0_1, r0_2, r0_3⟩ := hs.g7.f4
  obtain ⟨r4_0, r4_1, r4_2, r4_3⟩ := hs.g6.f4
  refine bodyPost_ret (v := (.tuple #[(.agg #[.bool n_g3, .slice o_g3 k_g3 c_g3, .bool n_g5, .slice o_g5 k_g5 c_g5]), (.agg #[.bool n_g8a, .slice o_g8a k_g8a c_g8a, .bool n_g8b, .slice o_g8b k_g8b c_g8b]), (.int .i64 0)])) (by simp [results, Tryz.results36, go_sem, r0_0, r0_1, r0_2, r0_3, r4_0, r4_1, r4_2, r4_3]) rfl ?_
  have k22_28 := (((((kb hb_23).b n24).b hb_25).b n26).o hd27 ho27).o hd28 ho28
  replace g3 := g3.k k22_28
  replace g5 := g5.k k22_28
  have k25_28 := ((kb n26).o hd27 ho27).o hd28 ho28
  replace g81 := g81.k k25_28
  replace g82 := g82.k k25_28
  exact ⟨_, _, rfl, .mk' g3 g5, .mk' g81 g82, hs.b⟩
set_option maxHeartbeats 4000000 in
set_option maxRecDepth 20000 in
theorem gExact_any (ha : PN w va x l y m) (hq : PN w vb u k v n) (hl : l ≤ 10000000) (hm : m ≤ 10000000) (hk : k ≤ 10000000) (hn : n ≤ 10000000) (h0 : gN u v ≠ 0) (h1 : (gT1 x y u v).fmod (gN u v) = 0) (h2 : (gT2 x y u v).fmod (gN u v) = 0) :
    Calls Tryz.prog 14 #[va, vb] w fun e w' => ∃ r, e = .returned (.tuple #[r, .int .i64 0]) ∧ PC w' r ((gT1 x y u v).fdiv (gN u v)) ((gT2 x y u v).fdiv (gN u v)) ∧ Below w.heap.size w w' := by
  have H0 := hide h0
  have H1 := hide h1
  have H2 := hide h2
  clear h0 h1 h2
  obtain ⟨n_0a, o_0a, k_0a, c_0a, n_0b, o_0b, k_0b, c_0b, rfl, ha1, ha2⟩ := ha
  obtain ⟨n_1a, o_1a, k_1a, c_1a, n_1b, o_1b, k_1b, c_1b, rfl, hq1, hq2⟩ := hq
  go_enter Tryz.func14, Tryz.ntmps14
  have hs := St.nil w
  refine wp_seq_k ?_
  intro K1 hK1
  refine rg [0, 1, 2, 3] ?_
  refine sq ?_
  refine .al hs ?_; clear hs; intro p_b1 w_1 hs n1 kb_b1
  refine sq ?_
  refine .al hs ?_; clear hs; intro p_b2 w_2 hs n2 kb_b2
  refine sq ?_
  refine .al hs ?_; clear hs; intro p_b3 w_3 hs n3 kb_b3
  refine sq ?_
  refine .mv ?_
  apply wpSq_end
  refine hK1 _ _ ?_
  refine wp_seq_k ?_
  intro K2 hK2
  refine rg [0, 1, 2, 3, 4, 5, 6, 7, 8, 9] ?_
  refine sq ?_
  refine .r4 hs.g2.f4 ?_
  refine sq ?_
  refine .r4 hs.g1.f4 ?_
  refine sq ?_
  intro K hK
  have k0_3 := ((kb n1).b n2).b n3
  replace ha1 := ha1.k k0_3
  replace ha2 := ha2.k k0_3
  replace hq1 := hq1.k k0_3
  replace hq2 := hq2.k k0_3
  go_big_op
  go_fit (overNorm_any (PN.mk' ha1 ha2) (PN.mk' hq1 hq2) (by omega) (by omega) (by omega) (by omega) )
  rintro e w_4 ⟨_, v_g2, rfl, ⟨n_g1a, o_g1a, k_g1a, c_g1a, n_g1b, o_g1b, k_g1b, c_g1b, rfl, g11, g12⟩, g2, hb_4⟩
  replace hs := hs.bl hb_4
  obtain ⟨n_g2, o_g2, k_g2, c_g2, rfl⟩ := g2.open2
  have Lg11 := hide (g11.lenOf (zlen_gT1 (ha1.len) (ha2.len) (hq1.len) (hq2.len)))
  have Lg12 := hide (g12.lenOf (zlen_gT2 (ha1.len) (ha2.len) (hq1.len) (hq2.len)))
  have Lg2 := hide (g2.lenOf (zlen_gN (hq1.len) (hq2.len)))
  refine hK _ _ rfl trivial ?_
  clear hK K
  refine sq ?_
  refine .mv ?_
  refine sq ?_
  refine .r0 ?_
  refine sq ?_
  refine .r0 ?_
  refine sq ?_
  refine .al hs ?_; clear hs; intro p_b4 w_5 hs n5 kb_b4
  refine sq ?_
  refine .al hs ?_; clear hs; intro p_b5 w_6 hs n6 kb_b5
  refine sq ?_
  refine .s4 hs.g1 (fun _ => hs.u1 kb_b4) ?_; clear hs; intro w_7 hs hd7 ho7
  refine sq ?_
  refine .s2 hs.g0 (fun _ => hs.u0 kb_b5) ?_; clear hs; intro w_8 hs hd8 ho8
  apply wpSq_end
  refine hK2 _ _ ?_
  refine wp_seq_k ?_
  intro K3 hK3
  refine rg [0, 1, 2, 3, 4, 5, 6, 7, 8, 9] ?_
  refine sq ?_
  refine .r0 ?_
  refine sq ?_
  refine .r4 hs.g1.f4 ?_
  refine sq ?_
  refine .r2 hs.g0.f2 ?_
  refine sq ?_
  intro K hK
  have k4_8 := (((kb n5).b n6).o hd7 ho7).o hd8 ho8
  replace g11 := g11.k k4_8
  replace g2 := g2.k k4_8
  go_big_op
  go_fit (exact_any (g11.zn Lg11.out) (g2.zn Lg2.out) (by omega) (by omega) H0.out H1.out)
  rintro e w_9 ⟨v_g3, rfl, g3, hb_9⟩
  replace hs := hs.bl hb_9
  replace g3 := g3.rd
  obtain ⟨n_g3, o_g3, k_g3, c_g3, rfl⟩ := g3.open2
  have Lg3 := hide (g3.lenOf (fdiv_len (H0.out) (Lg11.out)))
  refine hK _ _ rfl trivial ?_
  clear hK K
  refine sq ?_
  refine .mv ?_
  refine sq ?_
  refine .r0 ?_
  refine sq ?_
  refine .r0 ?_
  refine sq ?_
  refine .al hs ?_; clear hs; intro p_b6 w_10 hs n10 kb_b6
  refine sq ?_
  refine .s2 hs.g0 (fun _ => hs.u0 kb_b6) ?_; clear hs; intro w_11 hs hd11 ho11
  refine sq ?_
  refine .mv ?_
  apply wpSq_end
  refine hK3 _ _ ?_
  refine wp_seq_k ?_
  intro K4 hK4
  refine wp_seq_k ?_
  intro K5 hK5
  refine rg [0, 1] ?_
  refine sq ?_
  refine .mv ?_
  refine sq ?_
  refine .r0 ?_
  apply wpSq_end
  refine hK5 _ _ ?_
  refine cf ?_
  refine wp_skip ?_
  refine hK4 _ _ ?_
  refine wp_seq_k ?_
  intro K6 hK6
  refine rg [0, 1, 2, 3, 4, 5, 6, 7, 8, 9] ?_
  refine sq ?_
  refine .r0 ?_
  refine sq ?_
  refine .r4 hs.g2.f4 ?_
  refine sq ?_
  refine .r2 hs.g1.f2 ?_
  refine sq ?_
  intro K hK
  have k4_11 := ((k4_8.b hb_9).b n10).o hd11 ho11
  replace g12 := g12.k k4_11
  have k8_11 := ((kb hb_9).b n10).o hd11 ho11
  replace g2 := g2.k k8_11
  go_big_op
  go_fit (exact_any (g12.zn Lg12.out) (g2.zn Lg2.out) (by omega) (by omega) H0.out H2.out)
  rintro e w_12 ⟨v_g5, rfl, g5, hb_12⟩
  replace hs := hs.bl hb_12
  replace g5 := g5.rd
  obtain ⟨n_g5, o_g5, k_g5, c_g5, rfl⟩ := g5.open2
  have Lg5 := hide (g5.lenOf (fdiv_len (H0.out) (Lg12.out)))
  refine hK _ _ rfl trivial ?_
  clear hK K
  refine sq ?_
  refine .mv ?_
  refine sq ?_
  refine .r0 ?_
  refine sq ?_
  refine .r0 ?_
  refine sq ?_
  refine .al hs ?_; clear hs; intro p_b7 w_13 hs n13 kb_b7
  clear ha1 ha2 hq1 hq2 g11 g12 g2
  refine sq ?_
  refine .s2 hs.g0 (fun _ => hs.u0 kb_b7) ?_; clear hs; intro w_14 hs hd14 ho14
  refine sq ?_
  refine .mv ?_
  apply wpSq_end
  refine hK6 _ _ ?_
  refine wp_seq_k ?_
  intro K7 hK7
  refine wp_seq_k ?_
  intro K8 hK8
  refine rg [0, 1] ?_
  refine sq ?_
  refine .mv ?_
  refine sq ?_
  refine .r0 ?_
  apply wpSq_end
  refine hK8 _ _ ?_
  refine cf ?_
  refine wp_skip ?_
  refine hK7 _ _ ?_
  refine wp_seq_k ?_
  intro K9 hK9
  refine rg [0, 1, 2, 3, 4] ?_
  refine sq ?_
  refine .r2 hs.g1.f2 ?_
  refine sq ?_
  refine .r2 hs.g0.f2 ?_
  refine sq ?_
  refine .r0 ?_
  refine sq ?_
  refine .s4 hs.g4 (fun _ => hs.u4 kb_b3) ?_; clear hs; intro w_15 hs hd15 ho15
  refine sq ?_
  refine .mv ?_
  apply wpSq_end
  refine hK9 _ _ ?_
  refine wp_ret ?_
  try dsimp only [Exit.then, Exit.inBlock]
  obtain ⟨r0_0, r0_1, r0_2, r0_3⟩ := hs.g4.f4
  refine bodyPost_ret (v := (.tuple #[(.agg #[.bool n_g3, .slice o_g3 k_g3 c_g3, .bool n_g5, .slice o_g5 k_g5 c_g5]), (.int .i64 0)])) (by simp [results, Tryz.results14, go_sem, r0_0, r0_1, r0_2, r0_3]) rfl ?_
  have k9_15 := (((((kb n10).o hd11 ho11).b hb_12).b n13).o hd14 ho14).o hd15 ho15
  replace g3 := g3.k k9_15
  have k12_15 := ((kb n13).o hd14 ho14).o hd15 ho15
  replace g5 := g5.k k12_15
  exact ⟨_, rfl, .mk' g3 g5, hs.b⟩
set_option maxHeartbeats 4000000 in
set_option maxRecDepth 20000 in
theorem gExact_rest1 (ha : PN w va x l y m) (hq : PN w vb u k v n) (hl : l ≤ 10000000) (hm : m ≤ 10000000) (hk : k ≤ 10000000) (hn : n ≤ 10000000) (h0 : gN u v ≠ 0) (h1 : (gT1 x y u v).fmod (gN u v) ≠ 0) :
    Calls Tryz.prog 14 #[va, vb] w fun e w' => e = .returned (.tuple #[.agg #[.bool false, .slice none 0 0, .bool false, .slice none 0 0], .int .i64 11]) ∧ Below w.heap.size w w' := by
  have H0 := hide h0
  have H1 := hide h1
  clear h0 h1
  obtain ⟨n_0a, o_0a, k_0a, c_0a, n_0b, o_0b, k_0b, c_0b, rfl, ha1, ha2⟩ := ha
  obtain ⟨n_1a, o_1a, k_1a, c_1a, n_1b, o_1b, k_1b, c_1b, rfl, hq1, hq2⟩ := hq
  go_enter Tryz.func14, Tryz.ntmps14
  have hs := St.nil w
  refine wp_seq_k ?_
  intro K1 hK1
  refine rg [0, 1, 2, 3] ?_
  refine sq ?_
  refine .al hs ?_; clear hs; intro p_b1 w_1 hs n1 kb_b1
  refine sq ?_
  refine .al hs ?_; clear hs; intro p_b2 w_2 hs n2 kb_b2
  refine sq ?_
  refine .al hs ?_; clear hs; intro p_b3 w_3 hs n3 kb_b3
  refine sq ?_
  refine .mv ?_
  apply wpSq_end
  refine hK1 _ _ ?_
  refine wp_seq_k ?_
  intro K2 hK2
  refine rg [0, 1, 2, 3, 4, 5, 6, 7, 8, 9] ?_
  refine sq ?_
  refine .r4 hs.g2.f4 ?_
  refine sq ?_
  refine .r4 hs.g1.f4 ?_
  refine sq ?_
  intro K hK
  have k0_3 := ((kb n1).b n2).b n3
  replace ha1 := ha1.k k0_3
  replace ha2 := ha2.k k0_3
  replace hq1 := hq1.k k0_3
  replace hq2 := hq2.k k0_3
  go_big_op
  go_fit (overNorm_any (PN.mk' ha1 ha2) (PN.mk' hq1 hq2) (by omega) (by omega) (by omega) (by omega) )
  rintro e w_4 ⟨_, v_g2, rfl, ⟨n_g1a, o_g1a, k_g1a, c_g1a, n_g1b, o_g1b, k_g1b, c_g1b, rfl, g11, g12⟩, g2, hb_4⟩
  replace hs := hs.bl hb_4
  obtain ⟨n_g2, o_g2, k_g2, c_g2, rfl⟩ := g2.open2
  have Lg11 := hide (g11.lenOf (zlen_gT1 (ha1.len) (ha2.len) (hq1.len) (hq2.len)))
  have Lg12 := hide (g12.lenOf (zlen_gT2 (ha1.len) (ha2.len) (hq1.len) (hq2.len)))
  have Lg2 := hide (g2.lenOf (zlen_gN (hq1.len) (hq2.len)))
  refine hK _ _ rfl trivial ?_
  clear hK K
  refine sq ?_
  refine .mv ?_
  refine sq ?_
  refine .r0 ?_
  refine sq ?_
  refine .r0 ?_
  refine sq ?_
  refine .al hs ?_; clear hs; intro p_b4 w_5 hs n5 kb_b4
  refine sq ?_
  refine .al hs ?_; clear hs; intro p_b5 w_6 hs n6 kb_b5
  refine sq ?_
  refine .s4 hs.g1 (fun _ => hs.u1 kb_b4) ?_; clear hs; intro w_7 hs hd7 ho7
  refine sq ?_
  refine .s2 hs.g0 (fun _ => hs.u0 kb_b5) ?_; clear hs; intro w_8 hs hd8 ho8
  apply wpSq_end
  refine hK2 _ _ ?_
  refine wp_seq_k ?_
  intro K3 hK3
  refine rg [0, 1, 2, 3, 4, 5, 6, 7, 8, 9] ?_
  refine sq ?_
  refine .r0 ?_
  refine sq ?_
  refine .r4 hs.g1.f4 ?_
  refine sq ?_
  refine .r2 hs.g0.f2 ?_
  refine sq ?_
  intro K hK
  have k4_8 := (((kb n5).b n6).o hd7 ho7).o hd8 ho8
  replace g11 := g11.k k4_8
  replace g2 := g2.k k4_8
  go_big_op
  go_fit (exact_rest (g11.zn Lg11.out) (g2.zn Lg2.out) (by omega) (by omega) H0.out H1.out)
  rintro e w_9 ⟨rfl, hb_9⟩
  replace hs := hs.bl hb_9
  refine hK _ _ rfl trivial ?_
  clear hK K
  refine sq ?_
  refine .mv ?_
  refine sq ?_
  refine .r0 ?_
  refine sq ?_
  refine .r0 ?_
  refine sq ?_
  refine .al hs ?_; clear hs; intro p_b6 w_10 hs n10 kb_b6
  refine sq ?_
  refine .s2 hs.g0 (fun _ => hs.u0 kb_b6) ?_; clear hs; intro w_11 hs hd11 ho11
  refine sq ?_
  refine .mv ?_
  apply wpSq_end
  refine hK3 _ _ ?_
  refine wp_seq_k ?_
  intro K4 hK4
  refine wp_seq_k ?_
  intro K5 hK5
  refine rg [0, 1] ?_
  refine sq ?_
  refine .mv ?_
  refine sq ?_
  refine .r0 ?_
  apply wpSq_end
  refine hK5 _ _ ?_
  refine ct ?_
  refine wp_seq_k ?_
  intro K6 hK6
  refine rg [0, 1, 2, 3] ?_
  refine sq ?_
  refine .r0 ?_
  refine sq ?_
  refine .mv ?_
  refine sq ?_
  refine .s4 hs.g3 (fun _ => hs.u3 kb_b3) ?_; clear hs; intro w_12 hs hd12 ho12
  refine sq ?_
  refine .mv ?_
  apply wpSq_end
  refine hK6 _ _ ?_
  refine wp_ret ?_
  try dsimp only [Exit.then, Exit.inBlock]
  obtain ⟨r0_0, r0_1, r0_2, r0_3⟩ := hs.g3.f4
  refine bodyPost_ret (v := (.tuple #[(.agg #[.bool false, .slice none 0 0, .bool false, .slice none 0 0]), (.int .i64 11)])) (by simp [results, Tryz.results14, go_sem, r0_0, r0_1, r0_2, r0_3]) rfl ?_
  have hb := hs.b
  exact ⟨rfl, hb⟩
set_option maxHeartbeats 4000000 in
set_option maxRecDepth 20000 in
theorem gExact_rest2 (ha : PN w va x l y m) (hq : PN w vb u k v n) (hl : l ≤ 10000000) (hm : m ≤ 10000000) (hk : k ≤ 10000000) (hn : n ≤ 10000000) (h0 : gN u v ≠ 0) (h1 : (gT1 x y u v).fmod (gN u v) = 0) (h2 : (gT2 x y u v).fmod (gN u v) ≠ 0) :
    Calls Tryz.prog 14 #[va, vb] w fun e w' => e = .returned (.tuple #[.agg #[.bool false, .slice none 0 0, .bool false, .slice none 0 0], .int .i64 11]) ∧ Below w.heap.size w w' := by
  have H0 := hide h0
  have H1 := hide h1
  have H2 := hide h2
  clear h0 h1 h2
  obtain ⟨n_0a, o_0a, k_0a, c_0a, n_0b, o_0b, k_0b, c_0b, rfl, ha1, ha2⟩ := ha
  obtain ⟨n_1a, o_1a, k_1a, c_1a, n_1b, o_1b, k_1b, c_1b, rfl, hq1, hq2⟩ := hq
  go_enter Tryz.func14, Tryz.ntmps14
  have hs := St.nil w
  refine wp_seq_k ?_
  intro K1 hK1
  refine rg [0, 1, 2, 3] ?_
  refine sq ?_
  refine .al hs ?_; clear hs; intro p_b1 w_1 hs n1 kb_b1
  refine sq ?_
  refine .al hs ?_; clear hs; intro p_b2 w_2 hs n2 kb_b2
  refine sq ?_
  refine .al hs ?_; clear hs; intro p_b3 w_3 hs n3 kb_b3
  refine sq ?_
  refine .mv ?_
  apply wpSq_end
  refine hK1 _ _ ?_
  refine wp_seq_k ?_
  intro K2 hK2
  refine rg [0, 1, 2, 3, 4, 5, 6, 7, 8, 9] ?_
  refine sq ?_
  refine .r4 hs.g2.f4 ?_
  refine sq ?_
  refine .r4 hs.g1.f4 ?_
  refine sq ?_
  intro K hK
  have k0_3 := ((kb n1).b n2).b n3
  replace ha1 := ha1.k k0_3
  replace ha2 := ha2.k k0_3
  replace hq1 := hq1.k k0_3
  replace hq2 := hq2.k k0_3
  go_big_op
  go_fit (overNorm_any (PN.mk' ha1 ha2) (PN.mk' hq1 hq2) (by omega) (by omega) (by omega) (by omega) )
  rintro e w_4 ⟨_, v_g2, rfl, ⟨n_g1a, o_g1a, k_g1a, c_g1a, n_g1b, o_g1b, k_g1b, c_g1b, rfl, g11, g12⟩, g2, hb_4⟩
  replace hs := hs.bl hb_4
  obtain ⟨n_g2, o_g2, k_g2, c_g2, rfl⟩ := g2.open2
  have Lg11 := hide (g11.lenOf (zlen_gT1 (ha1.len) (ha2.len) (hq1.len) (hq2.len)))
  have Lg12 := hide (g12.lenOf (zlen_gT2 (ha1.len) (ha2.len) (hq1.len) (hq2.len)))
  have Lg2 := hide (g2.lenOf (zlen_gN (hq1.len) (hq2.len)))
  refine hK _ _ rfl trivial ?_
  clear hK K
  refine sq ?_
  refine .mv ?_
  refine sq ?_
  refine .r0 ?_
  refine sq ?_
  refine .r0 ?_
  refine sq ?_
  refine .al hs ?_; clear hs; intro p_b4 w_5 hs n5 kb_b4
  refine sq ?_
  refine .al hs ?_; clear hs; intro p_b5 w_6 hs n6 kb_b5
  refine sq ?_
  refine .s4 hs.g1 (fun _ => hs.u1 kb_b4) ?_; clear hs; intro w_7 hs hd7 ho7
  refine sq ?_
  refine .s2 hs.g0 (fun _ => hs.u0 kb_b5) ?_; clear hs; intro w_8 hs hd8 ho8
  apply wpSq_end
  refine hK2 _ _ ?_
  refine wp_seq_k ?_
  intro K3 hK3
  refine rg [0, 1, 2, 3, 4, 5, 6, 7, 8, 9] ?_
  refine sq ?_
  refine .r0 ?_
  refine sq ?_
  refine .r4 hs.g1.f4 ?_
  refine sq ?_
  refine .r2 hs.g0.f2 ?_
  refine sq ?_
  intro K hK
  have k4_8 := (((kb n5).b n6).o hd7 ho7).o hd8 ho8
  replace g11 := g11.k k4_8
  replace g2 := g2.k k4_8
  go_big_op
  go_fit (exact_any (g11.zn Lg11.out) (g2.zn Lg2.out) (by omega) (by omega) H0.out H1.out)
  rintro e w_9 ⟨v_g3, rfl, g3, hb_9⟩
  replace hs := hs.bl hb_9
  replace g3 := g3.rd
  obtain ⟨n_g3, o_g3, k_g3, c_g3, rfl⟩ := g3.open2
  have Lg3 := hide (g3.lenOf (fdiv_len (H0.out) (Lg11.out)))
  refine hK _ _ rfl trivial ?_
  clear hK K
  refine sq ?_
  refine .mv ?_
  refine sq ?_
  refine .r0 ?_
  refine sq ?_
  refine .r0 ?_
  refine sq ?_
  refine .al hs ?_; clear hs; intro p_b6 w_10 hs n10 kb_b6
  refine sq ?_
  refine .s2 hs.g0 (fun _ => hs.u0 kb_b6) ?_; clear hs; intro w_11 hs hd11 ho11
  refine sq ?_
  refine .mv ?_
  apply wpSq_end
  refine hK3 _ _ ?_
  refine wp_seq_k ?_
  intro K4 hK4
  refine wp_seq_k ?_
  intro K5 hK5
  refine rg [0, 1] ?_
  refine sq ?_
  refine .mv ?_
  refine sq ?_
  refine .r0 ?_
  apply wpSq_end
  refine hK5 _ _ ?_
  refine cf ?_
  refine wp_skip ?_
  refine hK4 _ _ ?_
  refine wp_seq_k ?_
  intro K6 hK6
  refine rg [0, 1, 2, 3, 4, 5, 6, 7, 8, 9] ?_
  refine sq ?_
  refine .r0 ?_
  refine sq ?_
  refine .r4 hs.g2.f4 ?_
  refine sq ?_
  refine .r2 hs.g1.f2 ?_
  refine sq ?_
  intro K hK
  have k4_11 := ((k4_8.b hb_9).b n10).o hd11 ho11
  replace g12 := g12.k k4_11
  have k8_11 := ((kb hb_9).b n10).o hd11 ho11
  replace g2 := g2.k k8_11
  go_big_op
  go_fit (exact_rest (g12.zn Lg12.out) (g2.zn Lg2.out) (by omega) (by omega) H0.out H2.out)
  rintro e w_12 ⟨rfl, hb_12⟩
  replace hs := hs.bl hb_12
  refine hK _ _ rfl trivial ?_
  clear hK K
  refine sq ?_
  refine .mv ?_
  refine sq ?_
  refine .r0 ?_
  refine sq ?_
  refine .r0 ?_
  refine sq ?_
  refine .al hs ?_; clear hs; intro p_b7 w_13 hs n13 kb_b7
  clear ha1 ha2 hq1 hq2 g11 g12 g2
  refine sq ?_
  refine .s2 hs.g0 (fun _ => hs.u0 kb_b7) ?_; clear hs; intro w_14 hs hd14 ho14
  refine sq ?_
  refine .mv ?_
  apply wpSq_end
  refine hK6 _ _ ?_
  refine wp_seq_k ?_
  intro K7 hK7
  refine wp_seq_k ?_
  intro K8 hK8
  refine rg [0, 1] ?_
  refine sq ?_
  refine .mv ?_
  refine sq ?_
  refine .r0 ?_
  apply wpSq_end
  refine hK8 _ _ ?_
  refine ct ?_
  refine wp_seq_k ?_
  intro K9 hK9
  refine rg [0, 1, 2, 3] ?_
  refine sq ?_
  refine .r0 ?_
  refine sq ?_
  refine .mv ?_
  refine sq ?_
  refine .s4 hs.g4 (fun _ => hs.u4 kb_b3) ?_; clear hs; intro w_15 hs hd15 ho15
  refine sq ?_
  refine .mv ?_
  apply wpSq_end
  refine hK9 _ _ ?_
  refine wp_ret ?_
  try dsimp only [Exit.then, Exit.inBlock]
  obtain ⟨r0_0, r0_1, r0_2, r0_3⟩ := hs.g4.f4
  refine bodyPost_ret (v := (.tuple #[(.agg #[.bool false, .slice none 0 0, .bool false, .slice none 0 0]), (.int .i64 11)])) (by simp [results, Tryz.results14, go_sem, r0_0, r0_1, r0_2, r0_3]) rfl ?_
  have hb := hs.b
  exact ⟨rfl, hb⟩
theorem gExact_rest (ha : PN w va x l y m) (hq : PN w vb u k v n) (hl : l ≤ 10000000) (hm : m ≤ 10000000) (hk : k ≤ 10000000) (hn : n ≤ 10000000) (h0 : gN u v ≠ 0) (h1 : ¬ ((gT1 x y u v).fmod (gN u v) = 0 ∧ (gT2 x y u v).fmod (gN u v) = 0)) :
    Calls Tryz.prog 14 #[va, vb] w fun e w' => e = .returned (.tuple #[.agg #[.bool false, .slice none 0 0, .bool false, .slice none 0 0], .int .i64 11]) ∧ Below w.heap.size w w' := by
  by_cases h : (gT1 x y u v).fmod (gN u v) = 0
  · exact gExact_rest2 ha hq hl hm hk hn h0 h (fun h2 => h1 ⟨h, h2⟩)
  · exact gExact_rest1 ha hq hl hm hk hn h0 h
set_option maxHeartbeats 4000000 in
set_option maxRecDepth 20000 in
theorem gExact_zero (ha : PN w va x l y m) (hq : PN w vb 0 k 0 n) (hl : l ≤ 10000000) (hm : m ≤ 10000000) (hk : k ≤ 10000000) (hn : n ≤ 10000000) :
    Calls Tryz.prog 14 #[va, vb] w fun e w' => e = .returned (.tuple #[.agg #[.bool false, .slice none 0 0, .bool false, .slice none 0 0], .int .i64 5]) ∧ Below w.heap.size w w' := by
  have E := hide (show gN 0 0 = 0 from rfl)
  obtain ⟨n_0a, o_0a, k_0a, c_0a, n_0b, o_0b, k_0b, c_0b, rfl, ha1, ha2⟩ := ha
  obtain ⟨n_1a, o_1a, k_1a, c_1a, n_1b, o_1b, k_1b, c_1b, rfl, hq1, hq2⟩ := hq
  go_enter Tryz.func14, Tryz.ntmps14
  have hs := St.nil w
  refine wp_seq_k ?_
  intro K1 hK1
  refine rg [0, 1, 2, 3] ?_
  refine sq ?_
  refine .al hs ?_; clear hs; intro p_b1 w_1 hs n1 kb_b1
  refine sq ?_
  refine .al hs ?_; clear hs; intro p_b2 w_2 hs n2 kb_b2
  refine sq ?_
  refine .al hs ?_; clear hs; intro p_b3 w_3 hs n3 kb_b3
  refine sq ?_
  refine .mv ?_
  apply wpSq_end
  refine hK1 _ _ ?_
  refine wp_seq_k ?_
  intro K2 hK2
  refine rg [0, 1, 2, 3, 4, 5, 6, 7, 8, 9] ?_
  refine sq ?_
  refine .r4 hs.g2.f4 ?_
  refine sq ?_
  refine .r4 hs.g1.f4 ?_
  refine sq ?_
  intro K hK
  have k0_3 := ((kb n1).b n2).b n3
  replace ha1 := ha1.k k0_3
  replace ha2 := ha2.k k0_3
  replace hq1 := hq1.k k0_3
  replace hq2 := hq2.k k0_3
  go_big_op
  go_fit (overNorm_any (PN.mk' ha1 ha2) (PN.mk' hq1 hq2) (by omega) (by omega) (by omega) (by omega) )
  rintro e w_4 ⟨_, v_g2, rfl, ⟨n_g1a, o_g1a, k_g1a, c_g1a, n_g1b, o_g1b, k_g1b, c_g1b, rfl, g11, g12⟩, g2, hb_4⟩
  replace hs := hs.bl hb_4
  obtain ⟨n_g2, o_g2, k_g2, c_g2, rfl⟩ := g2.open2
  have Lg11 := hide (g11.lenOf (zlen_gT1 (ha1.len) (ha2.len) (hq1.len) (hq2.len)))
  have Lg12 := hide (g12.lenOf (zlen_gT2 (ha1.len) (ha2.len) (hq1.len) (hq2.len)))
  have Lg2 := hide (g2.lenOf (zlen_gN (hq1.len) (hq2.len)))
  rw [E.out] at g2
  refine hK _ _ rfl trivial ?_
  clear hK K
  refine sq ?_
  refine .mv ?_
  refine sq ?_
  refine .r0 ?_
  refine sq ?_
  refine .r0 ?_
  refine sq ?_
  refine .al hs ?_; clear hs; intro p_b4 w_5 hs n5 kb_b4
  refine sq ?_
  refine .al hs ?_; clear hs; intro p_b5 w_6 hs n6 kb_b5
  refine sq ?_
  refine .s4 hs.g1 (fun _ => hs.u1 kb_b4) ?_; clear hs; intro w_7 hs hd7 ho7
  refine sq ?_
  refine .s2 hs.g0 (fun _ => hs.u0 kb_b5) ?_; clear hs; intro w_8 hs hd8 ho8
  apply wpSq_end
  refine hK2 _ _ ?_
  refine wp_seq_k ?_
  intro K3 hK3
  refine rg [0, 1, 2, 3, 4, 5, 6, 7, 8, 9] ?_
  refine sq ?_
  refine .r0 ?_
  refine sq ?_
  refine .r4 hs.g1.f4 ?_
  refine sq ?_
  refine .r2 hs.g0.f2 ?_
  refine sq ?_
  intro K hK
  have k4_8 := (((kb n5).b n6).o hd7 ho7).o hd8 ho8
  replace g11 := g11.k k4_8
  replace g2 := g2.k k4_8
  go_big_op
  go_fit (exact_zero (g11.zn Lg11.out) (g2.zn Lg2.out) (by omega) (by omega) )
  rintro e w_9 ⟨rfl, hb_9⟩
  replace hs := hs.bl hb_9
  refine hK _ _ rfl trivial ?_
  clear hK K
  refine sq ?_
  refine .mv ?_
  refine sq ?_
  refine .r0 ?_
  refine sq ?_
  refine .r0 ?_
  refine sq ?_
  refine .al hs ?_; clear hs; intro p_b6 w_10 hs n10 kb_b6
  refine sq ?_
  refine .s2 hs.g0 (fun _ => hs.u0 kb_b6) ?_; clear hs; intro w_11 hs hd11 ho11
  refine sq ?_
  refine .mv ?_
  apply wpSq_end
  refine hK3 _ _ ?_
  refine wp_seq_k ?_
  intro K4 hK4
  refine wp_seq_k ?_
  intro K5 hK5
  refine rg [0, 1] ?_
  refine sq ?_
  refine .mv ?_
  refine sq ?_
  refine .r0 ?_
  apply wpSq_end
  refine hK5 _ _ ?_
  refine ct ?_
  refine wp_seq_k ?_
  intro K6 hK6
  refine rg [0, 1, 2, 3] ?_
  refine sq ?_
  refine .r0 ?_
  refine sq ?_
  refine .mv ?_
  refine sq ?_
  refine .s4 hs.g3 (fun _ => hs.u3 kb_b3) ?_; clear hs; intro w_12 hs hd12 ho12
  refine sq ?_
  refine .mv ?_
  apply wpSq_end
  refine hK6 _ _ ?_
  refine wp_ret ?_
  try dsimp only [Exit.then, Exit.inBlock]
  obtain ⟨r0_0, r0_1, r0_2, r0_3⟩ := hs.g3.f4
  refine bodyPost_ret (v := (.tuple #[(.agg #[.bool false, .slice none 0 0, .bool false, .slice none 0 0]), (.int .i64 5)])) (by simp [results, Tryz.results14, go_sem, r0_0, r0_1, r0_2, r0_3]) rfl ?_
  have hb := hs.b
  exact ⟨rfl, hb⟩
end
end Go.Proofs.YtlomgfgedkkhkaaGreatDoor
