/- zint.Int. -/
import Derived.Test.YtkgbfnmlpajblaaGreatDoorZ8
import Derived.Test.YtkgbfnmlpajblaaGreatDoorR7
import Derived.Test.YtkgbfnmlpajblaaGreatDoorMx
import Derived.Test.YtkgbfnmlpajblaaGreatDoorR2aToR6
import Derived.Test.YtkgbfnmlpajblaaGreatDoorW8
import Derived.Test.YtkgbfnmlpajblaaGreatDoorR1
import Derived.Lib.Strings

namespace Go.Proofs.YtkgbfnmlpajblaaGreatDoor
open Go.RowKit Dig
end Go.Proofs.YtkgbfnmlpajblaaGreatDoor

/- nat.isDigits, groupValue and putGroup: what a text's digits are worth. -/
namespace Go.Proofs.YtkgbfnmlpajblaaGreatDoor
open Go.RowKit Dig

/-- A decimal digit. -/
def isD (c : UInt8) : Bool := decide (48 ≤ c.toNat ∧ c.toNat ≤ 57)
/-- What decimal digits are worth. -/
def pval (l : List UInt8) : Nat := l.foldl (fun v c => v * 10 + (c.toNat - 48)) 0
def digitsB (l : List UInt8) : Bool := l.all isD && !l.isEmpty
theorem pval_snoc (l : List UInt8) (c : UInt8) : pval (l ++ [c]) = pval l * 10 + (c.toNat - 48) := by simp [pval]
theorem take_snoc (s : ByteArray) (k : Nat) (h : k < s.size) : s.data.toList.take (k + 1) = s.data.toList.take k ++ [s[k]] := by
  rw [List.take_succ_eq_append_getElem (by simpa using h)]; rfl
theorem take_size (s : ByteArray) : s.data.toList.take s.size = s.data.toList := List.take_of_length_le (Nat.le_of_eq (by rw [Array.length_toList]; rfl))
theorem revInd {p : List UInt8 → Prop} (h0 : p []) (h1 : ∀ l c, p l → p (l ++ [c])) (l : List UInt8) : p l := by
  rw [← List.reverse_reverse l]
  induction l.reverse with
  | nil => exact h0
  | cons c l ih => rw [List.reverse_cons]; exact h1 _ c ih
theorem pval_lt {l : List UInt8} {k : Nat} (hd : l.all isD = true) (hl : l.length ≤ k) : pval l < 10 ^ k := by
  have h : ∀ (l : List UInt8), l.all isD = true → pval l < 10 ^ l.length := by
    intro l
    refine revInd (p := fun l => l.all isD = true → pval l < 10 ^ l.length) ?_ ?_ l
    · intro _; simp [pval]
    · intro l c ih hd
      rw [List.all_append, Bool.and_eq_true] at hd
      have h1 := ih hd.1
      have h2 : isD c = true := by simpa using hd.2
      simp only [isD, decide_eq_true_eq] at h2
      rw [pval_snoc, List.length_append, List.length_singleton, Nat.pow_succ]
      omega
  exact Nat.lt_of_lt_of_le (h l hd) (Nat.pow_le_pow_right (by decide) hl)
set_option maxHeartbeats 400000 in
set_option maxRecDepth 20000 in
theorem isDigits_any (s : ByteArray) (w : World) (hs : s.size ≤ 1000000) :
    Calls Tryz.prog 148 #[.string s] w fun e w' => e = .returned (.bool (digitsB s.data.toList)) ∧ w = w' := by
  obtain ⟨r, Hr⟩ : ∃ r, Hid (digitsB s.data.toList = r) := ⟨_, rfl⟩
  rw [Hr.out]
  go_enter Tryz.func148, Tryz.ntmps148
  go_wp2_with fail
  go_loop [6] (fun i => ∃ k : Nat, k ≤ s.size ∧ i = .int .i64 (k : Int) ∧ (s.data.toList.take k).all isD = true) (fun i => s.size - (intOf i).toNat)
  case atStart => exact ⟨0, Nat.zero_le _, rfl, by simp⟩
  case round =>
    obtain ⟨k, hk, rfl, hall⟩ := hrel
    have Hall := hide hall
    clear hall
    by_cases hlt : k < s.size
    · have hts := take_snoc s k hlt
      by_cases hd : 48 ≤ s[k].toNat ∧ s[k].toNat ≤ 57
      · have h1 : ¬ (s[k].toNat : Int) < 48 := by omega
        have h2 : ¬ (57 : Int) < (s[k].toNat : Int) := by omega
        have HS : Hid ((s.data.toList.take (k + 1)).all isD = true) := by
          show _ = true
          rw [hts, List.all_append, Hall.out]; simp [isD, hd]
        clear hts hd
        go_wp2
        all_goals go_round
        case rel => exact ⟨k + 1, hlt, by go_num, HS.out⟩
        case measure => simp [intOf]; omega
      · have hr : r = false := by
          rw [← Hr.out]
          unfold digitsB
          have : s.data.toList.all isD = false := by
            have e := List.take_append_drop (k + 1) s.data.toList
            rw [← e, List.all_append, hts, List.all_append]
            have : isD s[k] = false := by simp [isD]; omega
            simp [this]
          rw [this]; rfl
        have HR := hide hr
        clear hr hts
        by_cases h1 : s[k].toNat < 48
        · have h1' : (s[k].toNat : Int) < 48 := by omega
          go_wp2
          all_goals go_ret
          all_goals exact ⟨by rw [HR.out]; rfl, rfl⟩
        · have h1' : ¬ (s[k].toNat : Int) < 48 := by omega
          have h2' : (57 : Int) < (s[k].toNat : Int) := by omega
          go_wp2
          all_goals go_ret
          all_goals exact ⟨by rw [HR.out]; rfl, rfl⟩
    · obtain rfl : k = s.size := by omega
      have hr : decide (0 < s.size) = r := by
        rw [← Hr.out]
        have h1 := Hall.out
        rw [take_size] at h1
        unfold digitsB
        rw [h1, Bool.true_and]
        have e : s.size = s.data.toList.length := by rw [Array.length_toList]; rfl
        rw [e]
        cases s.data.toList <;> simp
      have HR := hide hr
      clear hr
      go_wp2_with fail
      go_ret
      refine ⟨?_, rfl⟩
      rw [← HR.out]
      simp
set_option maxHeartbeats 400000 in
set_option maxRecDepth 20000 in
theorem groupValue_any (s : ByteArray) (w : World) (hs : s.size ≤ 9) (hd : s.data.toList.all isD = true) :
    Calls Tryz.prog 150 #[.string s] w fun e w' => e = .returned (.int .u64 (pval s.data.toList : Nat)) ∧ w = w' := by
  have HD := hide hd
  clear hd
  go_enter Tryz.func150, Tryz.ntmps150
  go_wp2_with fail
  go_loop [3, 7] (fun v i => ∃ k : Nat, k ≤ s.size ∧ i = .int .i64 (k : Int) ∧ v = .int .u64 ((pval (s.data.toList.take k) : Nat) : Int)) (fun _ i => s.size - (intOf i).toNat)
  case atStart => exact ⟨0, Nat.zero_le _, rfl, rfl⟩
  case round =>
    obtain ⟨k, hk, rfl, rfl⟩ := hrel
    by_cases hlt : k < s.size
    · have hts := take_snoc s k hlt
      have hall : (s.data.toList.take (k + 1)).all isD = true := by
        have h := HD.out
        rw [← List.take_append_drop (k + 1) s.data.toList, List.all_append, Bool.and_eq_true] at h
        exact h.1
      have hbound := pval_lt (k := 9) (l := s.data.toList.take k) (by
        have h := HD.out
        rw [← List.take_append_drop k s.data.toList, List.all_append, Bool.and_eq_true] at h
        exact h.1) (by rw [List.length_take]; omega)
      have hc : 48 ≤ s[k].toNat ∧ s[k].toNat ≤ 57 := by
        rw [hts, List.all_append, Bool.and_eq_true] at hall
        simpa [isD] using hall.2
      have HP : Hid (pval (s.data.toList.take (k + 1)) = pval (s.data.toList.take k) * 10 + (s[k].toNat - 48)) := by
        show _ = _
        rw [hts, pval_snoc]
      have h1 : 48 ≤ s[k].toNat := hc.1
      have h2 : s[k].toNat ≤ 57 := hc.2
      clear hts hall hc
      generalize pval (s.data.toList.take k) = p at *
      have hp : p < 1000000000 := by simpa using hbound
      clear hbound
      go_wp2
      go_round
      case rel => exact ⟨k + 1, hlt, by go_num, congrArg (fun z : Int => Value.int .u64 z) (by rw [HP.out]; omega)⟩
      case measure => simp [intOf]; omega
    · obtain rfl : k = s.size := by omega
      have e := take_size s
      have E := hide e
      clear e
      go_wp2_with fail
      go_ret
      exact ⟨by rw [E.out]; rfl, rfl⟩
/-- One digit with its carry, and the whole times M. -/
theorem put_step {ds ys : List Nat} {k c x t M g : Nat} (hk : k < ds.length) (hl : ys.length = ds.length) (hx : ds[k]?.getD 0 = x) (heq : val (ys.take k) + pw k * c = val (ds.take k) * M + g) (ht : t = c + x * M) :
    val ((ys.set k (t % 4294967296)).take (k + 1)) + pw (k + 1) * (t / 4294967296) = val (ds.take (k + 1)) * M + g := by
  rw [val_take_succ (by simpa [hl] using hk), val_take_succ hk, hx, getD_set_same (by omega), List.take_set_of_le (Nat.le_refl k), Nat.add_mul, Nat.mul_assoc]
  simp only [pw]
  have e1 : pw k * t = pw k * (t % 4294967296) + 4294967296 * pw k * (t / 4294967296) := by
    conv => lhs; rw [← Nat.mod_add_div t 4294967296]
    rw [Nat.mul_add, Nat.mul_comm 4294967296 (pw k), Nat.mul_assoc]
  have e2 : pw k * t = pw k * c + pw k * (x * M) := by rw [ht, Nat.mul_add]
  omega
theorem canon_snoc {ys : List Nat} {c : Nat} (ok : OK ys) (hc : c < 4294967296) (h0 : c ≠ 0) : ys ++ [c] = dig (val (ys ++ [c])) := by
  rw [dig_val (ok.append (OK.cons hc OK.nil))]
  induction ys with
  | nil => simp [strip, h0]
  | cons y ys ih =>
    have := ih ok.tail
    simp only [List.cons_append, strip]
    rw [← this, if_neg]
    rintro ⟨h, _⟩
    simp at h
theorem canon_top {ys : List Nat} (ok : OK ys) (h : ys.length ≤ (dig (val ys)).length) : ys = dig (val ys) := by
  rw [dig_val ok] at h ⊢
  have h1 := strip_take ys
  have h2 := strip_length_le ys
  rw [show (strip ys).length = ys.length by omega, List.take_length] at h1
  exact h1.symm
set_option maxHeartbeats 1000000 in
set_option maxRecDepth 20000 in
/-- putGroup: an own canonical number times 10^9 and the group. -/
theorem putGroup_any (B n g : Nat) (v : Value) (w : World) (hg : g < 1000000000) (hown : w.ownsRow B 72 1 v (dig n).length ((dig n).map dv)) (hB : B ≤ w.heap.size) (hl : (dig n).length ≤ 1000000000) :
    Calls Tryz.prog 149 #[v, .int .u64 (g : Int)] w fun e w' => ∃ v', e = .returned v' ∧ w'.ownsRow B 72 1 v' (dig (n * 1000000000 + g)).length ((dig (n * 1000000000 + g)).map dv) ∧ Below B w w' := by
  obtain ⟨i0, hi, hz0, hz1, hz2⟩ := info_parts info32
  have okd := OK_dig n
  have hvd := val_dig n
  obtain ⟨ds, Hds⟩ : ∃ ds, Hid (dig n = ds) := ⟨_, rfl⟩
  rw [Hds.out] at hown okd hl hvd
  obtain ⟨oa, cap, hv, hcl⟩ : ∃ oa cap, v = .slice oa ds.length cap ∧ (ds = [] ∨ ∃ gb, oa = some ⟨gb, 0, none⟩ ∧ B ≤ gb) := by
    rcases own_slice hown with ⟨h1, h2, h3⟩ | ⟨gb, cap, h1, h2, _, _⟩
    · have : ds = [] := List.length_eq_zero_iff.1 h2
      subst this
      exact ⟨none, 0, h1, .inl rfl⟩
    · exact ⟨_, cap, h1, .inr ⟨gb, rfl, h2⟩⟩
  subst hv
  go_enter Tryz.func149, Tryz.ntmps149
  go_wp2_with fail
  go_loopw [5, 11] (fun c i wr => ∃ (k c0 : Nat) (ys : List Nat), k ≤ ds.length ∧ c = .int .u64 (c0 : Int) ∧ i = .int .i64 (k : Int) ∧ wr.ownsRow B 72 1 (.slice oa ds.length cap) ds.length (ys.map dv) ∧ ys.length = ds.length ∧ OK ys ∧
    (∀ t, k ≤ t → ys[t]?.getD 0 = ds[t]?.getD 0) ∧ val (ys.take k) + pw k * c0 = val (ds.take k) * 1000000000 + g ∧ c0 < 4294967296 ∧ Below B w wr) (fun _ i _ => ds.length - (intOf i).toNat)
  case atStart => exact ⟨0, g, ds, Nat.zero_le _, rfl, rfl, hown, rfl, okd, fun _ _ => rfl, by simp [val, pw], by omega, Below.refl _ _⟩
  case round =>
    obtain ⟨k, c0, ys, hk, rfl, rfl, hown, hyl, oky, hsame, heq, hc0, hb⟩ := hrel
    have Heq := hide heq
    have Hsame := hide hsame
    have Hyl := hide hyl
    clear heq hsame hyl
    by_cases hlt : k < ds.length
    · obtain ⟨gb, hoa, hgB⟩ := hcl.resolve_left (fun e => by rw [e] at hlt; simp at hlt)
      subst hoa
      obtain ⟨x, Hx⟩ : ∃ x, Hid (ds[k]?.getD 0 = x) := ⟨_, rfl⟩
      have hxb : x < 4294967296 := by have := okd.get k; rw [Hx.out] at this; exact this
      have gu : wr.cell? ⟨gb, k, none⟩ = some (.int .u32 (x : Int)) := by
        rcases own_slice hown with ⟨h1, _⟩ | ⟨g', cap', h1, _, _, h4⟩
        · cases h1
        · cases h1
          rw [h4 k hlt, List.getElem?_map, List.getElem?_eq_getElem (by have := Hyl.out; omega)]
          have h5 := Hsame.out k (Nat.le_refl _)
          rw [Hx.out, List.getElem?_eq_getElem (by have := Hyl.out; omega)] at h5
          simp at h5
          simp [dv, h5]
      have gf := own_frozen hown k
      obtain ⟨t, ht⟩ : ∃ t, c0 + x * 1000000000 = t := ⟨_, rfl⟩
      have hs := put_step hlt Hyl.out Hx.out Heq.out ht.symm
      have HS := hide hs
      have e1 : ((c0 : Int) + (x : Int) * 1000000000) / 4294967296 = ((t / 4294967296 : Nat) : Int) := by omega
      have e2 : ((c0 : Int) + (x : Int) * 1000000000) % 4294967296 = ((t % 4294967296 : Nat) : Int) := by omega
      have E1 := hide e1
      have E2 := hide e2
      have htb : t / 4294967296 < 4294967296 := by omega
      clear hs ht e1 e2
      go_wp2_with fail
      rw [E1.out, E2.out]
      go_roundw
      case rel =>
        exact ⟨k + 1, _, ys.set k (t % 4294967296), hlt, rfl, by go_num, by have := own_setCell hown k hlt (dv (t % 4294967296)); rw [← List.map_set] at this; exact this, by simpa using Hyl.out, oky.set _ (by omega),
          fun i hi => by rw [getD_set_other (by omega)]; exact Hsame.out i (by omega), HS.out, htb, hb.setCell hgB _⟩
      case measure => simp [intOf]; omega
    · obtain rfl : k = ds.length := by omega
      have hval : val ys + pw ds.length * c0 = n * 1000000000 + g := by
        have h1 := Heq.out
        have h2 := Hyl.out
        rw [List.take_length, hvd] at h1
        rw [← h2, List.take_length, h2] at h1; exact h1
      by_cases hc : c0 = 0
      · subst hc
        have hfin : ys = dig (n * 1000000000 + g) := by
          have e : val ys = n * 1000000000 + g := by omega
          rw [← e]
          refine canon_top oky ?_
          rw [Hyl.out, ← Hds.out, e]
          exact dig_length_mono (by omega)
        rw [← Hyl.out, hfin] at hown
        have HF : Hid (ds.length = (dig (n * 1000000000 + g)).length) := by rw [← hfin]; exact Hyl.out.symm
        have HYL := Hyl
        clear hval hfin Hyl
        go_wp2
        go_ret
        exact ⟨_, rfl, by rw [HF.out]; exact hown, hb⟩
      · have hcb : ((c0 : Int) == 0) = false := by rw [beq_eq_false_iff_ne]; omega
        have hcm : (c0 : Int) % 4294967296 = (c0 : Int) := by omega
        have hfin : ys ++ [c0] = dig (n * 1000000000 + g) := by
          rw [canon_snoc oky hc0 hc, val_append, Hyl.out]
          simp only [val, Nat.mul_zero, Nat.add_zero]
          rw [hval]
        have HF := hide hfin
        have hBr : B ≤ wr.heap.size := Nat.le_trans hB hb.size
        clear hval hfin hcm
        go_wp2_with (at_builtin; refine wpList_append_own _ rfl _ _ 22 rfl B 72 i0 (.int .u32 0) 1 4 Tryz.underlying22 hi hz0 hz1 hz2 rfl (by decide) _ _ _ rfl (hown.alloc _) ⟨wr.heap.size, 0, none⟩ 1 1 [.int .u32 (c0 : Int)] rfl rfl ?c1 ?c2 ?c3 ?c4 ?c5 ?_)
        case c1 =>
          intro j u hj
          match j, hj with
          | 0, hj => simp at hj; subst hj; simp [Addr.add]
        case c2 => intro u hu; simp at hu; subst hu; rfl
        case c3 => unfold maxLen; omega
        case c4 => omega
        case c5 => simp; omega
        intro v' w1 hown' hgrow _
        have hown2 : w1.ownsRow B 72 1 v' (dig (n * 1000000000 + g)).length ((dig (n * 1000000000 + g)).map dv) := by
          rw [← HF.out, List.map_append, List.length_append, Hyl.out]; exact hown'
        have hb1 := (hb.alloc hBr (.cells #[.int .u32 (c0 : Int)] 72)).grown hgrow (by simp; omega) (fun k hk => (hown.lt k hk).1)
        clear hown' hgrow hown
        go_wp2
        go_ret
        exact ⟨v', rfl, hown2, hb1⟩
end Go.Proofs.YtkgbfnmlpajblaaGreatDoor

/- nat.Parse: the number of a text of digits, or the error. -/
namespace Go.Proofs.YtkgbfnmlpajblaaGreatDoor
open Go.RowKit Dig

def parseI (s : ByteArray) : Int := if 65536 < s.size then 12 else if digitsB s.data.toList then 0 else 7
def parseD (s : ByteArray) : List Nat := if 65536 < s.size then [] else if digitsB s.data.toList then dig (pval s.data.toList) else []
theorem pval_append (a b : List UInt8) : pval (a ++ b) = pval a * 10 ^ b.length + pval b := by
  refine revInd (p := fun b => pval (a ++ b) = pval a * 10 ^ b.length + pval b) ?_ ?_ b
  · simp [pval]
  · intro l c ih
    rw [← List.append_assoc, pval_snoc, pval_snoc, ih, List.length_append, List.length_singleton, Nat.pow_succ, Nat.add_mul, Nat.mul_assoc, Nat.add_assoc]
theorem two_le_pw' {n m : Nat} (h : n ≤ 32 * m) : 2 ^ n ≤ pw m := by
  rw [pw_eq]; exact Nat.pow_le_pow_right (by decide) h
theorem pval_dig_length {l : List UInt8} (hd : l.all isD = true) (hl : l.length ≤ 65536) : (dig (pval l)).length ≤ 8192 := by
  have h := pval_lt hd (Nat.le_refl _)
  refine dig_length_le (Nat.lt_of_lt_of_le h ?_)
  have e : (10 : Nat) ^ l.length ≤ 16 ^ l.length := Nat.pow_le_pow_left (by decide) _
  have e2 : (16 : Nat) ^ l.length = 2 ^ (4 * l.length) := by rw [Nat.pow_mul]
  rw [e2] at e
  exact Nat.le_trans e (two_le_pw' (by omega))
set_option maxHeartbeats 1000000 in
set_option maxRecDepth 20000 in
theorem parse_any (s : ByteArray) (w : World) (hs : s.size ≤ 1000000000) :
    Calls Tryz.prog 127 #[.string s] w fun e w' => ∃ v, e = .returned (.tuple #[v, .int .i64 (parseI s)]) ∧ Rd w' v (parseD s) ∧ Below w.heap.size w w' := by
  by_cases h1 : 65536 < s.size
  · have e1 : parseI s = 12 := by unfold parseI; rw [if_pos h1]
    have e2 : parseD s = [] := by unfold parseD; rw [if_pos h1]
    rw [e1, e2]
    go_enter Tryz.func127, Tryz.ntmps127
    go_wp2_with fail
    go_ret2
    exact ⟨_, rfl, ⟨none, 0, rfl, Nat.le_refl _, OK.nil, .inl rfl⟩, Below.refl _ _⟩
  · by_cases h2 : digitsB s.data.toList = true
    · have e1 : parseI s = 0 := by unfold parseI; rw [if_neg h1, if_pos h2]
      have e2 : parseD s = dig (pval s.data.toList) := by unfold parseD; rw [if_neg h1, if_pos h2]
      rw [e1, e2]
      have hall : s.data.toList.all isD = true := by unfold digitsB at h2; rw [Bool.and_eq_true] at h2; exact h2.1
      have hne : 0 < s.size := by
        unfold digitsB at h2
        rw [Bool.and_eq_true] at h2
        rcases Nat.eq_zero_or_pos s.size with h | h
        · have e : s.data.toList = [] := List.length_eq_zero_iff.1 (by rw [Array.length_toList]; exact h)
          rw [e] at h2; simp at h2
        · exact h
      have Hall := hide hall
      clear e1 e2 hall
      go_enter Tryz.func127, Tryz.ntmps127
      go_wp2_with fail
      refine (isDigits_any s w (by omega)).mono ?_
      rintro e w' ⟨rfl, rfl⟩
      rw [h2]
      clear h2
      go_wp2_with fail
      go_loopw [4, 5] (fun v i wr => ∃ e q : Nat, i = .int .i64 (e : Int) ∧ 1 ≤ e ∧ e + 9 * q = s.size + 9 ∧ wr.ownsRow w.heap.size 72 1 v (dig (pval (s.data.toList.take (e - 9)))).length ((dig (pval (s.data.toList.take (e - 9)))).map dv) ∧ Below w.heap.size w wr) (fun _ i _ => s.size + 9 - (intOf i).toNat)
      case atStart =>
        refine ⟨(s.size - 1) % 9 + 1, (s.size - 1) / 9 + 1, congrArg (fun z : Int => Value.int .i64 z) (by omega), by omega, by omega, ?_, Below.refl _ _⟩
        rw [show (s.size - 1) % 9 + 1 - 9 = 0 by omega]
        exact World.ownsRow_nil _ _ _ _
      case round =>
        obtain ⟨e, q, rfl, he1, heq, hown, hb⟩ := hrel
        by_cases hq : e ≤ s.size
        · have hpre : (s.data.toList.take (e - 9)).all isD = true := by
            have h := Hall.out
            rw [← List.take_append_drop (e - 9) s.data.toList, List.all_append, Bool.and_eq_true] at h
            exact h.1
          have hlen := pval_dig_length hpre (by rw [List.length_take]; omega)
          have hgd : (s.extract (e - 9) e).data.toList = (s.data.toList.drop (e - 9)).take (e - (e - 9)) := Lib.extract_data s (e - 9) e
          have hgall : (s.extract (e - 9) e).data.toList.all isD = true := by
            rw [hgd]
            have h := Hall.out
            rw [List.all_eq_true] at h ⊢
            exact fun x hx => h x (List.mem_of_mem_drop (List.mem_of_mem_take hx))
          have hgs : (s.extract (e - 9) e).size ≤ 9 := by rw [ByteArray.size_extract]; omega
          have hgv := groupValue_any (s.extract (e - 9) e)
          have hgl : (s.extract (e - 9) e).data.toList.length ≤ 9 := by rw [Array.length_toList]; exact hgs
          have hgb := pval_lt hgall hgl
          have hstep : pval (s.data.toList.take (e - 9)) * 1000000000 + pval (s.extract (e - 9) e).data.toList = pval (s.data.toList.take (e + 9 - 9)) := by
            rw [Nat.add_sub_cancel]
            have hsp : s.data.toList.take e = s.data.toList.take (e - 9) ++ (s.extract (e - 9) e).data.toList := by
              rw [hgd]
              have h1 := List.take_append_drop (e - 9) (s.data.toList.take e)
              rw [List.take_take, Nat.min_eq_left (by omega), List.drop_take] at h1
              exact h1.symm
            rw [hsp, pval_append]
            by_cases h9 : 9 ≤ e
            · have : (s.extract (e - 9) e).data.toList.length = 9 := by
                rw [hgd, List.length_take, List.length_drop, Array.length_toList]
                show min (e - (e - 9)) (s.size - (e - 9)) = 9
                omega
              rw [this]
            · have h0 : e - 9 = 0 := by omega
              rw [h0]; simp [pval]
          have HSt := hide hstep
          have hgb' : pval (s.extract (e - 9) e).data.toList < 1000000000 := by simpa using hgb
          clear hstep hgb hgl hgd hpre
          go_wp2_with fail
          rw [show (max (0 : Int) ((e : Int) - 9)).toNat = e - 9 from by omega]
          refine (hgv wr hgs hgall).mono ?_
          rintro e' w' ⟨rfl, rfl⟩
          generalize hP : pval (s.extract (e - 9) e).data.toList = P at *
          go_wp2_with fail
          refine (putGroup_any w.heap.size _ P _ wr hgb' hown hb.size (by omega)).mono ?_
          rintro e' w2 ⟨v', rfl, hown2, hb2⟩
          rw [HSt.out] at hown2
          clear hP
          go_wp2
          go_roundw
          case rel => exact ⟨e + 9, q - 1, by go_num, by omega, by omega, hown2, hb.trans hb2⟩
          case measure => simp [intOf]; omega
        · have hqe : e = s.size + 9 := by omega
          subst hqe
          rw [Nat.add_sub_cancel, take_size] at hown
          have okd := OK_dig (pval s.data.toList)
          go_wp2_with fail
          go_ret2
          exact ⟨_, rfl, Rd.of_owns okd hown, hb⟩
    · have e1 : parseI s = 7 := by unfold parseI; rw [if_neg h1, if_neg h2]
      have e2 : parseD s = [] := by unfold parseD; rw [if_neg h1, if_neg h2]
      rw [e1, e2]
      have h2' : digitsB s.data.toList = false := by simpa using h2
      clear h2
      go_enter Tryz.func127, Tryz.ntmps127
      go_wp2_with fail
      refine (isDigits_any s w (by omega)).mono ?_
      rintro e w' ⟨rfl, rfl⟩
      rw [h2']
      go_wp2
      go_ret2
      exact ⟨_, rfl, ⟨none, 0, rfl, Nat.le_refl _, OK.nil, .inl rfl⟩, Below.refl _ _⟩
end Go.Proofs.YtkgbfnmlpajblaaGreatDoor

/- The reference's Digits and Parse: what a text's digits are worth. -/
namespace Go.Proofs.YtkgbfnmlpajblaaGreatDoor
open Go.RowKit Dig

end Go.Proofs.YtkgbfnmlpajblaaGreatDoor

