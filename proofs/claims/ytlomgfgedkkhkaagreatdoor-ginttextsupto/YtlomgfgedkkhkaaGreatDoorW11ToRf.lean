/- nat.isDigits, groupValue and putGroup: what a text's digits are worth. -/
import Derived.Test.YtlomgfgedkkhkaaGreatDoorW8
import Derived.WalkKit
import Derived.Still
import Derived.Deep.Draws
import Derived.OrdersIn
import Derived.Below
namespace Go.Proofs.YtlomgfgedkkhkaaGreatDoor
open Go.RowKit Dig
/-- A decimal digit. -/
def isD (c : UInt8) : Bool := decide (48 ≤ c.toNat ∧ c.toNat ≤ 57)
/-- What decimal digits are worth. -/
def pval (l : List UInt8) : Nat := l.foldl (fun v c => v * 10 + (c.toNat - 48)) 0
def digitsB (l : List UInt8) : Bool := l.all isD && !l.isEmpty
theorem pval_snoc (l : List UInt8) (c : UInt8) : pval (l ++ [c]) = pval l * 10 + (c.toNat - 48) := by simp [pval]
theorem take_snoc (s : ByteArray) (k : Nat) (h : k < s.size) : s.data.toList.take (k + 1) = s.data.toList.take k ++ [s[k]] := by
  rw [List.take_succ_eq_append_getElem (by simpa using h)]; rfl
theorem take_size (s : ByteArray) : s.data.toList.take s.size = s.data.toList := List.take_of_length_le (Nat.le_of_eq (by rw [Array.length_toList]; rfl))
theorem revInd {p : List UInt8 → Prop} (h0 : p []) (h1 : ∀ l c, p l → p (l ++ [c])) (l : List UInt8) : p l := by
  rw [← List.reverse_reverse l]
  induction l.reverse with
  | nil => exact h0
  | cons c l ih => rw [List.reverse_cons]; exact h1 _ c ih
theorem pval_lt {l : List UInt8} {k : Nat} (hd : l.all isD = true) (hl : l.length ≤ k) : pval l < 10 ^ k := by
  have h : ∀ (l : List UInt8), l.all isD = true → pval l < 10 ^ l.length := by
    intro l
    refine revInd (p := fun l => l.all isD = true → pval l < 10 ^ l.length) ?_ ?_ l
    · intro _; simp [pval]
    · intro l c ih hd
      rw [List.all_append, Bool.and_eq_true] at hd
      have h1 := ih hd.1
      have h2 : isD c = true := by simpa using hd.2
      simp only [isD, decide_eq_true_eq] at h2
      rw [pval_snoc, List.length_append, List.length_singleton, Nat.pow_succ]
      omega
  exact Nat.lt_of_lt_of_le (h l hd) (Nat.pow_le_pow_right (by decide) hl)
set_option maxHeartbeats 400000 in
set_option maxRecDepth 20000 in
theorem isDigits_any (s : ByteArray) (w : World) (hs : s.size ≤ 1000000) :
    Calls Tryz.prog 107 #[.string s] w fun e w' => e = .returned (.bool (digitsB s.data.toList)) ∧ w = w' := by
  obtain ⟨r, Hr⟩ : ∃ r, Hid (digitsB s.data.toList = r) := ⟨_, rfl⟩
  rw [Hr.out]
  go_enter Tryz.func107, Tryz.ntmps107
  go_wp2_with fail
  go_loop [6] (fun i => ∃ k : Nat, k ≤ s.size ∧ i = .int .i64 (k : Int) ∧ (s.data.toList.take k).all isD = true) (fun i => s.size - (intOf i).toNat)
  case atStart => exact ⟨0, Nat.zero_le _, rfl, by simp⟩
  case round =>
    obtain ⟨k, hk, rfl, hall⟩ := hrel
    have Hall := hide hall
    clear hall
    by_cases hlt : k < s.size
    · have hts := take_snoc s k hlt
      by_cases hd : 48 ≤ s[k].toNat ∧ s[k].toNat ≤ 57
      · have h1 : ¬ (s[k].toNat : Int) < 48 := by omega
        have h2 : ¬ (57 : Int) < (s[k].toNat : Int) := by omega
        have HS : Hid ((s.data.toList.take (k + 1)).all isD = true) := by
          show _ = true
          rw [hts, List.all_append, Hall.out]; simp [isD, hd]
        clear hts hd
        go_wp2
        all_goals go_round
        case rel => exact ⟨k + 1, hlt, by go_num, HS.out⟩
        case measure => simp [intOf]; omega
      · have hr : r = false := by
          rw [← Hr.out]
          unfold digitsB
          have : s.data.toList.all isD = false := by
            have e := List.take_append_drop (k + 1) s.data.toList
            rw [← e, List.all_append, hts, List.all_append]
            have : isD s[k] = false := by simp [isD]; omega
            simp [this]
          rw [this]; rfl
        have HR := hide hr
        clear hr hts
        by_cases h1 : s[k].toNat < 48
        · have h1' : (s[k].toNat : Int) < 48 := by omega
          go_wp2
          all_goals go_ret
          all_goals exact ⟨by rw [HR.out]; rfl, rfl⟩
        · have h1' : ¬ (s[k].toNat : Int) < 48 := by omega
          have h2' : (57 : Int) < (s[k].toNat : Int) := by omega
          go_wp2
          all_goals go_ret
          all_goals exact ⟨by rw [HR.out]; rfl, rfl⟩
    · obtain rfl : k = s.size := by omega
      have hr : decide (0 < s.size) = r := by
        rw [← Hr.out]
        have h1 := Hall.out
        rw [take_size] at h1
        unfold digitsB
        rw [h1, Bool.true_and]
        have e : s.size = s.data.toList.length := by rw [Array.length_toList]; rfl
        rw [e]
        cases s.data.toList <;> simp
      have HR := hide hr
      clear hr
      go_wp2_with fail
      go_ret
      refine ⟨?_, rfl⟩
      rw [← HR.out]
      simp
set_option maxHeartbeats 400000 in
set_option maxRecDepth 20000 in
theorem groupValue_any (s : ByteArray) (w : World) (hs : s.size ≤ 9) (hd : s.data.toList.all isD = true) :
    Calls Tryz.prog 109 #[.string s] w fun e w' => e = .returned (.int .u64 (pval s.data.toList : Nat)) ∧ w = w' := by
  have HD := hide hd
  clear hd
  go_enter Tryz.func109, Tryz.ntmps109
  go_wp2_with fail
  go_loop [3, 7] (fun v i => ∃ k : Nat, k ≤ s.size ∧ i = .int .i64 (k : Int) ∧ v = .int .u64 ((pval (s.data.toList.take k) : Nat) : Int)) (fun _ i => s.size - (intOf i).toNat)
  case atStart => exact ⟨0, Nat.zero_le _, rfl, rfl⟩
  case round =>
    obtain ⟨k, hk, rfl, rfl⟩ := hrel
    by_cases hlt : k < s.size
    · have hts := take_snoc s k hlt
      have hall : (s.data.toList.take (k + 1)).all isD = true := by
        have h := HD.out
        rw [← List.take_append_drop (k + 1) s.data.toList, List.all_append, Bool.and_eq_true] at h
        exact h.1
      have hbound := pval_lt (k := 9) (l := s.data.toList.take k) (by
        have h := HD.out
        rw [← List.take_append_drop k s.data.toList, List.all_append, Bool.and_eq_true] at h
        exact h.1) (by rw [List.length_take]; omega)
      have hc : 48 ≤ s[k].toNat ∧ s[k].toNat ≤ 57 := by
        rw [hts, List.all_append, Bool.and_eq_true] at hall
        simpa [isD] using hall.2
      have HP : Hid (pval (s.data.toList.take (k + 1)) = pval (s.data.toList.take k) * 10 + (s[k].toNat - 48)) := by
        show _ = _
        rw [hts, pval_snoc]
      have h1 : 48 ≤ s[k].toNat := hc.1
      have h2 : s[k].toNat ≤ 57 := hc.2
      clear hts hall hc
      generalize pval (s.data.toList.take k) = p at *
      have hp : p < 1000000000 := by simpa using hbound
      clear hbound
      go_wp2
      go_round
      case rel => exact ⟨k + 1, hlt, by go_num, congrArg (fun z : Int => Value.int .u64 z) (by rw [HP.out]; omega)⟩
      case measure => simp [intOf]; omega
    · obtain rfl : k = s.size := by omega
      have e := take_size s
      have E := hide e
      clear e
      go_wp2_with fail
      go_ret
      exact ⟨by rw [E.out]; rfl, rfl⟩
/-- One digit with its carry, and the whole times M. -/
theorem put_step {ds ys : List Nat} {k c x t M g : Nat} (hk : k < ds.length) (hl : ys.length = ds.length) (hx : ds[k]?.getD 0 = x) (heq : val (ys.take k) + pw k * c = val (ds.take k) * M + g) (ht : t = c + x * M) :
    val ((ys.set k (t % 4294967296)).take (k + 1)) + pw (k + 1) * (t / 4294967296) = val (ds.take (k + 1)) * M + g := by
  rw [val_take_succ (by simpa [hl] using hk), val_take_succ hk, hx, getD_set_same (by omega), List.take_set_of_le (Nat.le_refl k), Nat.add_mul, Nat.mul_assoc]
  simp only [pw]
  have e1 : pw k * t = pw k * (t % 4294967296) + 4294967296 * pw k * (t / 4294967296) := by
    conv => lhs; rw [← Nat.mod_add_div t 4294967296]
    rw [Nat.mul_add, Nat.mul_comm 4294967296 (pw k), Nat.mul_assoc]
  have e2 : pw k * t = pw k * c + pw k * (x * M) := by rw [ht, Nat.mul_add]
  omega
theorem canon_snoc {ys : List Nat} {c : Nat} (ok : OK ys) (hc : c < 4294967296) (h0 : c ≠ 0) : ys ++ [c] = dig (val (ys ++ [c])) := by
  rw [dig_val (ok.append (OK.cons hc OK.nil))]
  induction ys with
  | nil => simp [strip, h0]
  | cons y ys ih =>
    have := ih ok.tail
    simp only [List.cons_append, strip]
    rw [← this, if_neg]
    rintro ⟨h, _⟩
    simp at h
theorem canon_top {ys : List Nat} (ok : OK ys) (h : ys.length ≤ (dig (val ys)).length) : ys = dig (val ys) := by
  rw [dig_val ok] at h ⊢
  have h1 := strip_take ys
  have h2 := strip_length_le ys
  rw [show (strip ys).length = ys.length by omega, List.take_length] at h1
  exact h1.symm
set_option maxHeartbeats 1000000 in
set_option maxRecDepth 20000 in
/-- putGroup: an own canonical number times 10^9 and the group. -/
theorem putGroup_any (B n g : Nat) (v : Value) (w : World) (hg : g < 1000000000) (hown : w.ownsRow B 56 1 v (dig n).length ((dig n).map dv)) (hB : B ≤ w.heap.size) (hl : (dig n).length ≤ 1000000000) :
    Calls Tryz.prog 108 #[v, .int .u64 (g : Int)] w fun e w' => ∃ v', e = .returned v' ∧ w'.ownsRow B 56 1 v' (dig (n * 1000000000 + g)).length ((dig (n * 1000000000 + g)).map dv) ∧ Below B w w' := by
  obtain ⟨i0, hi, hz0, hz1, hz2⟩ := info_parts info32
  have okd := OK_dig n
  have hvd := val_dig n
  obtain ⟨ds, Hds⟩ : ∃ ds, Hid (dig n = ds) := ⟨_, rfl⟩
  rw [Hds.out] at hown okd hl hvd
  obtain ⟨oa, cap, hv, hcl⟩ : ∃ oa cap, v = .slice oa ds.length cap ∧ (ds = [] ∨ ∃ gb, oa = some ⟨gb, 0, none⟩ ∧ B ≤ gb) := by
    rcases own_slice hown with ⟨h1, h2, h3⟩ | ⟨gb, cap, h1, h2, _, _⟩
    · have : ds = [] := List.length_eq_zero_iff.1 h2
      subst this
      exact ⟨none, 0, h1, .inl rfl⟩
    · exact ⟨_, cap, h1, .inr ⟨gb, rfl, h2⟩⟩
  subst hv
  go_enter Tryz.func108, Tryz.ntmps108
  go_wp2_with fail
  go_loopw [5, 11] (fun c i wr => ∃ (k c0 : Nat) (ys : List Nat), k ≤ ds.length ∧ c = .int .u64 (c0 : Int) ∧ i = .int .i64 (k : Int) ∧ wr.ownsRow B 56 1 (.slice oa ds.length cap) ds.length (ys.map dv) ∧ ys.length = ds.length ∧ OK ys ∧
    (∀ t, k ≤ t → ys[t]?.getD 0 = ds[t]?.getD 0) ∧ val (ys.take k) + pw k * c0 = val (ds.take k) * 1000000000 + g ∧ c0 < 4294967296 ∧ Below B w wr) (fun _ i _ => ds.length - (intOf i).toNat)
  case atStart => exact ⟨0, g, ds, Nat.zero_le _, rfl, rfl, hown, rfl, okd, fun _ _ => rfl, by simp [val, pw], by omega, Below.refl _ _⟩
  case round =>
    obtain ⟨k, c0, ys, hk, rfl, rfl, hown, hyl, oky, hsame, heq, hc0, hb⟩ := hrel
    have Heq := hide heq
    have Hsame := hide hsame
    have Hyl := hide hyl
    clear heq hsame hyl
    by_cases hlt : k < ds.length
    · obtain ⟨gb, hoa, hgB⟩ := hcl.resolve_left (fun e => by rw [e] at hlt; simp at hlt)
      subst hoa
      obtain ⟨x, Hx⟩ : ∃ x, Hid (ds[k]?.getD 0 = x) := ⟨_, rfl⟩
      have hxb : x < 4294967296 := by have := okd.get k; rw [Hx.out] at this; exact this
      have gu : wr.cell? ⟨gb, k, none⟩ = some (.int .u32 (x : Int)) := by
        rcases own_slice hown with ⟨h1, _⟩ | ⟨g', cap', h1, _, _, h4⟩
        · cases h1
        · cases h1
          rw [h4 k hlt, List.getElem?_map, List.getElem?_eq_getElem (by have := Hyl.out; omega)]
          have h5 := Hsame.out k (Nat.le_refl _)
          rw [Hx.out, List.getElem?_eq_getElem (by have := Hyl.out; omega)] at h5
          simp at h5
          simp [dv, h5]
      have gf := own_frozen hown k
      obtain ⟨t, ht⟩ : ∃ t, c0 + x * 1000000000 = t := ⟨_, rfl⟩
      have hs := put_step hlt Hyl.out Hx.out Heq.out ht.symm
      have HS := hide hs
      have e1 : ((c0 : Int) + (x : Int) * 1000000000) / 4294967296 = ((t / 4294967296 : Nat) : Int) := by omega
      have e2 : ((c0 : Int) + (x : Int) * 1000000000) % 4294967296 = ((t % 4294967296 : Nat) : Int) := by omega
      have E1 := hide e1
      have E2 := hide e2
      have htb : t / 4294967296 < 4294967296 := by omega
      clear hs ht e1 e2
      go_wp2_with fail
      rw [E1.out, E2.out]
      go_roundw
      case rel =>
        exact ⟨k + 1, _, ys.set k (t % 4294967296), hlt, rfl, by go_num, by have := own_setCell hown k hlt (dv (t % 4294967296)); rw [← List.map_set] at this; exact this, by simpa using Hyl.out, oky.set _ (by omega),
          fun i hi => by rw [getD_set_other (by omega)]; exact Hsame.out i (by omega), HS.out, htb, hb.setCell hgB _⟩
      case measure => simp [intOf]; omega
    · obtain rfl : k = ds.length := by omega
      have hval : val ys + pw ds.length * c0 = n * 1000000000 + g := by
        have h1 := Heq.out
        have h2 := Hyl.out
        rw [List.take_length, hvd] at h1
        rw [← h2, List.take_length, h2] at h1; exact h1
      by_cases hc : c0 = 0
      · subst hc
        have hfin : ys = dig (n * 1000000000 + g) := by
          have e : val ys = n * 1000000000 + g := by omega
          rw [← e]
          refine canon_top oky ?_
          rw [Hyl.out, ← Hds.out, e]
          exact dig_length_mono (by omega)
        rw [← Hyl.out, hfin] at hown
        have HF : Hid (ds.length = (dig (n * 1000000000 + g)).length) := by rw [← hfin]; exact Hyl.out.symm
        have HYL := Hyl
        clear hval hfin Hyl
        go_wp2
        go_ret
        exact ⟨_, rfl, by rw [HF.out]; exact hown, hb⟩
      · have hcb : ((c0 : Int) == 0) = false := by rw [beq_eq_false_iff_ne]; omega
        have hcm : (c0 : Int) % 4294967296 = (c0 : Int) := by omega
        have hfin : ys ++ [c0] = dig (n * 1000000000 + g) := by
          rw [canon_snoc oky hc0 hc, val_append, Hyl.out]
          simp only [val, Nat.mul_zero, Nat.add_zero]
          rw [hval]
        have HF := hide hfin
        have hBr : B ≤ wr.heap.size := Nat.le_trans hB hb.size
        clear hval hfin hcm
        go_wp2_with (at_builtin; refine wpList_append_own _ rfl _ _ 24 rfl B 56 i0 (.int .u32 0) 1 4 Tryz.underlying24 hi hz0 hz1 hz2 rfl (by decide) _ _ _ rfl (hown.alloc _) ⟨wr.heap.size, 0, none⟩ 1 1 [.int .u32 (c0 : Int)] rfl rfl ?c1 ?c2 ?c3 ?c4 ?c5 ?_)
        case c1 =>
          intro j u hj
          match j, hj with
          | 0, hj => simp at hj; subst hj; simp [Addr.add]
        case c2 => intro u hu; simp at hu; subst hu; rfl
        case c3 => unfold maxLen; omega
        case c4 => omega
        case c5 => simp; omega
        intro v' w1 hown' hgrow _
        have hown2 : w1.ownsRow B 56 1 v' (dig (n * 1000000000 + g)).length ((dig (n * 1000000000 + g)).map dv) := by
          rw [← HF.out, List.map_append, List.length_append, Hyl.out]; exact hown'
        have hb1 := (hb.alloc hBr (.cells #[.int .u32 (c0 : Int)] 56)).grown hgrow (by simp; omega) (fun k hk => (hown.lt k hk).1)
        clear hown' hgrow hown
        go_wp2
        go_ret
        exact ⟨v', rfl, hown2, hb1⟩
set_option linter.unusedVariables false
/-- A sign. -/
def sgB (c : UInt8) : Bool := c == 43 || c == 45
/-- Is a list a whole number's text? -/
def zokL : List UInt8 → Bool
  | [] => false
  | c :: t => if c = 45 then digitsB t else digitsB (c :: t)
theorem isD_sg {c : UInt8} (h : isD c = true) : sgB c = false := by
  unfold isD at h
  unfold sgB
  have h := of_decide_eq_true h
  rw [Bool.or_eq_false_iff]
  constructor
  · rw [beq_eq_false_iff_ne]; rintro rfl; exact absurd h (by decide)
  · rw [beq_eq_false_iff_ne]; rintro rfl; exact absurd h (by decide)
theorem isD_45 {c : UInt8} (h : isD c = true) : c ≠ 45 := by
  intro e; subst e; exact absurd h (by decide)
theorem isD_43 {c : UInt8} (h : isD c = true) : c ≠ 43 := by
  intro e; subst e; exact absurd h (by decide)
theorem isD_105 : isD 105 = false := by decide
/-- How a text begins. -/
def Parts (l sg d r : List UInt8) : Prop :=
  l = sg ++ (d ++ r) ∧ ((sg = [] ∧ ∀ c, (d ++ r).head? = some c → c ≠ 43 ∧ c ≠ 45) ∨ sg = [43] ∨ sg = [45]) ∧ d.all isD = true ∧ ∀ c, r.head? = some c → isD c = false
theorem span_D : ∀ t : List UInt8, ∃ d r, t = d ++ r ∧ d.all isD = true ∧ ∀ c, r.head? = some c → isD c = false
  | [] => ⟨[], [], rfl, rfl, fun c h => nomatch h⟩
  | c :: t => by
    by_cases h : isD c = true
    · obtain ⟨d, r, rfl, h1, h2⟩ := span_D t
      exact ⟨c :: d, r, rfl, by rw [List.all_cons, h, h1]; rfl, h2⟩
    · exact ⟨[], c :: t, rfl, rfl, fun x hx => by
        obtain rfl : c = x := by simpa using hx
        simpa using h⟩
theorem parts (l : List UInt8) : ∃ sg d r, Parts l sg d r := by
  match l with
  | [] => exact ⟨[], [], [], rfl, .inl ⟨rfl, fun c h => nomatch h⟩, rfl, fun c h => nomatch h⟩
  | c :: t =>
    obtain ⟨d, r, ht, h1, h2⟩ := span_D t
    by_cases h43 : c = 43
    · subst h43; exact ⟨[43], d, r, by rw [ht]; rfl, .inr (.inl rfl), h1, h2⟩
    · by_cases h45 : c = 45
      · subst h45; exact ⟨[45], d, r, by rw [ht]; rfl, .inr (.inr rfl), h1, h2⟩
      · obtain ⟨d, r, ht, h1, h2⟩ := span_D (c :: t)
        exact ⟨[], d, r, ht, .inl ⟨rfl, fun x hx => by
          rw [← ht] at hx
          obtain rfl : c = x := by simpa using hx
          exact ⟨h43, h45⟩⟩, h1, h2⟩
/-- Where the last sign behind the first byte stands. -/
theorem last_sg : ∀ b : List UInt8, (∀ x ∈ b.tail, sgB x = false) ∨ ∃ p c q, b = p ++ c :: q ∧ p ≠ [] ∧ sgB c = true ∧ ∀ x ∈ q, sgB x = false := by
  intro b
  match b with
  | [] => exact .inl fun x h => nomatch h
  | a :: t =>
    have key : ∀ t : List UInt8, (∀ x ∈ t, sgB x = false) ∨ ∃ p c q, t = p ++ c :: q ∧ sgB c = true ∧ ∀ x ∈ q, sgB x = false := by
      intro t
      induction t with
      | nil => exact .inl fun x h => nomatch h
      | cons c t ih =>
        rcases ih with ih | ⟨p, c', q, rfl, h1, h2⟩
        · by_cases h : sgB c = true
          · exact .inr ⟨[], c, t, rfl, h, ih⟩
          · refine .inl fun x hx => ?_
            rcases List.mem_cons.1 hx with rfl | hx
            · simpa using h
            · exact ih x hx
        · exact .inr ⟨c :: p, c', q, rfl, h1, h2⟩
    rcases key t with h | ⟨p, c, q, rfl, h1, h2⟩
    · exact .inl h
    · exact .inr ⟨a :: p, c, q, rfl, by simp, h1, h2⟩
theorem digitsB_no {l : List UInt8} {c : UInt8} (hm : c ∈ l) (hc : isD c = false) : digitsB l = false := by
  unfold digitsB
  have : l.all isD = false := by
    rw [List.all_eq_false]
    exact ⟨c, hm, by simp [hc]⟩
  rw [this]; rfl
theorem digitsB_yes {l : List UInt8} (h : l.all isD = true) (hn : l ≠ []) : digitsB l = true := by
  unfold digitsB
  rw [h]
  cases l with
  | nil => exact absurd rfl hn
  | cons c t => rfl
theorem zokL_plus {t : List UInt8} : zokL (43 :: t) = false := by
  show (if (43 : UInt8) = 45 then digitsB t else digitsB (43 :: t)) = false
  rw [if_neg (by decide)]
  exact digitsB_no (c := 43) (List.mem_cons_self ..) (by decide)
/-- A sign or none, and digits. -/
theorem zokL_of {sg d r : List UInt8} (h : (sg = [] ∧ ∀ c, (d ++ r).head? = some c → c ≠ 43 ∧ c ≠ 45) ∨ sg = [45]) (hd : d.all isD = true) (hn : d ≠ []) : zokL (sg ++ d) = true := by
  rcases h with ⟨rfl, _⟩ | rfl
  · cases d with
    | nil => exact absurd rfl hn
    | cons c t =>
      have hc : isD c = true := by rw [List.all_cons, Bool.and_eq_true] at hd; exact hd.1
      show (if c = 45 then digitsB t else digitsB (c :: t)) = true
      rw [if_neg (isD_45 hc)]
      exact digitsB_yes hd hn
  · show (if (45 : UInt8) = 45 then digitsB d else digitsB (45 :: d)) = true
    rw [if_pos rfl]
    exact digitsB_yes hd hn
theorem zokL_0 {sg : List UInt8} (h : sg = [] ∨ sg = [45]) : zokL sg = false := by
  rcases h with rfl | rfl
  · rfl
  · rfl
/-- What is no digit, behind them. -/
theorem zokL_no {sg d t : List UInt8} {c : UInt8} (h : (sg = [] ∧ (d = [] → c ≠ 45)) ∨ sg = [45]) (hd : d.all isD = true) (hc : isD c = false) : zokL (sg ++ (d ++ c :: t)) = false := by
  rcases h with ⟨rfl, h⟩ | rfl
  · cases d with
    | nil =>
      show (if c = 45 then digitsB t else digitsB (c :: t)) = false
      rw [if_neg (h rfl)]
      exact digitsB_no (List.mem_cons_self ..) hc
    | cons a d =>
      have ha : isD a = true := by rw [List.all_cons, Bool.and_eq_true] at hd; exact hd.1
      show (if a = 45 then digitsB (d ++ c :: t) else digitsB (a :: (d ++ c :: t))) = false
      rw [if_neg (isD_45 ha)]
      exact digitsB_no (c := c) (by simp) hc
  · show (if (45 : UInt8) = 45 then digitsB (d ++ c :: t) else digitsB (45 :: (d ++ c :: t))) = false
    rw [if_pos rfl]
    exact digitsB_no (c := c) (by simp) hc
theorem span_one : ∀ {d d' r r' : List UInt8}, d ++ r = d' ++ r' → d.all isD = true → d'.all isD = true → (∀ c, r.head? = some c → isD c = false) → (∀ c, r'.head? = some c → isD c = false) → d = d' ∧ r = r'
  | [], [], r, r', h, _, _, _, _ => ⟨rfl, h⟩
  | [], c :: d', r, r', h, _, h1, h2, _ => by
    have h : r = c :: (d' ++ r') := h
    have := h2 c (by rw [h]; rfl)
    rw [List.all_cons, Bool.and_eq_true] at h1
    rw [h1.1] at this; exact absurd this (by decide)
  | c :: d, [], r, r', h, h1, _, _, h2 => by
    have h : c :: (d ++ r) = r' := h
    have := h2 c (by rw [← h]; rfl)
    rw [List.all_cons, Bool.and_eq_true] at h1
    rw [h1.1] at this; exact absurd this (by decide)
  | c :: d, c' :: d', r, r', h, h1, h2, h3, h4 => by
    have h : c :: (d ++ r) = c' :: (d' ++ r') := h
    rw [List.all_cons, Bool.and_eq_true] at h1 h2
    obtain ⟨e1, e2⟩ := List.cons.inj h
    obtain ⟨e3, e4⟩ := span_one e2 h1.2 h2.2 h3 h4
    exact ⟨by rw [e1, e3], e4⟩
/-- How many times i; a number with its sign. -/
def amN (d : List UInt8) : Nat := if d = [] then 1 else pval d
def snN (sg : List UInt8) (n : Nat) : Int := if sg = [45] then -(n : Int) else n
/-- What Parse tells. -/
def PgS (l : List UInt8) (o : Option (Int × Int)) : Prop :=
  ∃ sg d r, Parts l sg d r ∧
    ((sg = [43] ∧ o = none) ∨
    (sg ≠ [43] ∧ r = [105] ∧ o = some (0, snN sg (amN d))) ∨
    (sg ≠ [43] ∧ r ≠ [105] ∧ d = [] ∧ o = none) ∨
    (sg ≠ [43] ∧ d ≠ [] ∧ r = [] ∧ o = some (snN sg (pval d), 0)) ∨
    (sg ≠ [43] ∧ d ≠ [] ∧ r ≠ [] ∧ r ≠ [105] ∧ ∃ sg2 d2 r2, Parts r sg2 d2 r2 ∧ ((r2 = [105] ∧ (sg2 = [43] ∨ sg2 = [45]) ∧ o = some (snN sg (pval d), snN sg2 (amN d2))) ∨ (r2 ≠ [105] ∧ o = none))))
/-- What is asked of an amount. -/
def amS (q : List UInt8) (o : Option Nat) : Prop := (q = [] ∧ o = some 1) ∨ (q ≠ [] ∧ digitsB q = true ∧ o = some (pval q)) ∨ (q ≠ [] ∧ digitsB q = false ∧ o = none)
/-- A number's text as a number. -/
def zvN (l : List UInt8) : Int := if l.head? = some 45 then -((pval l.tail : Nat) : Int) else (pval l : Nat)
/-- What the reference tells. -/
def RfS (l : List UInt8) (o : Option (Int × Int)) : Prop :=
  (l.getLast? ≠ some 105 ∧ ((zokL l = true ∧ o = some (zvN l, 0)) ∨ (zokL l = false ∧ o = none))) ∨
  (∃ q a, l = 45 :: q ++ [105] ∧ (∀ x ∈ q, sgB x = false) ∧ amS q a ∧ o = a.map fun n => (0, -(n : Int))) ∨
  (∃ b a, l = b ++ [105] ∧ b.head? ≠ some 45 ∧ (∀ x ∈ b.tail, sgB x = false) ∧ amS b a ∧ o = a.map fun n => (0, (n : Int))) ∨
  (∃ p c q, l = p ++ c :: q ++ [105] ∧ p ≠ [] ∧ sgB c = true ∧ (∀ x ∈ q, sgB x = false) ∧
    ((zokL p = false ∧ o = none) ∨ (zokL p = true ∧ ∃ a, amS q a ∧ o = a.map fun n => (zvN p, if c = 45 then -(n : Int) else n))))
theorem amS_D {d : List UInt8} (h : d.all isD = true) : amS d (some (amN d)) := by
  by_cases hd : d = []
  · exact .inl ⟨hd, by rw [amN, if_pos hd]⟩
  · exact .inr (.inl ⟨hd, digitsB_yes h hd, by rw [amN, if_neg hd]⟩)
theorem amS_no {q : List UInt8} {c : UInt8} (hm : c ∈ q) (hc : isD c = false) : amS q none :=
  .inr (.inr ⟨fun e => by rw [e] at hm; exact absurd hm (by simp), digitsB_no hm hc, rfl⟩)
theorem all_sg {d : List UInt8} (h : d.all isD = true) : ∀ x ∈ d, sgB x = false := fun x hx => isD_sg (List.all_eq_true.1 h x hx)
theorem zvN_of {sg d : List UInt8} (h : (sg = [] ∧ ∀ c, (d ++ []).head? = some c → c ≠ 43 ∧ c ≠ 45) ∨ sg = [45]) (hd : d.all isD = true) (hn : d ≠ []) : zvN (sg ++ d) = snN sg (pval d) := by
  rcases h with ⟨rfl, _⟩ | rfl
  · cases d with
    | nil => exact absurd rfl hn
    | cons c t =>
      have hc : isD c = true := by rw [List.all_cons, Bool.and_eq_true] at hd; exact hd.1
      unfold zvN snN
      rw [if_neg (by simpa using isD_45 hc), if_neg (by simp)]; rfl
  · unfold zvN snN
    exact (if_pos (rfl : ([45] ++ d).head? = some (45 : UInt8))).trans (if_pos (rfl : ([45] : List UInt8) = [45])).symm
theorem last_i {l sg d : List UInt8} {c : UInt8} {t : List UInt8} (h : l = sg ++ (d ++ (c :: t))) (hi : l.getLast? = some 105) : ∃ r', c :: t = r' ++ [105] := by
  obtain ⟨ys, hy⟩ := List.getLast?_eq_some_iff.1 hi
  refine ⟨(c :: t).dropLast, ?_⟩
  have h1 := List.dropLast_concat_getLast (l := c :: t) (by simp)
  have h2 : (c :: t).getLast (by simp) = 105 := by
    have : l.getLast? = some ((c :: t).getLast (by simp)) := by
      rw [h, ← List.append_assoc, List.getLast?_append, List.getLast?_eq_some_getLast (by simp)]; rfl
    rw [hi] at this
    exact (Option.some.inj this).symm
  rw [h2] at h1
  exact h1.symm
theorem same_i {l : List UInt8} (hi : l.getLast? = some 105) : ∃ o, PgS l o ∧ RfS l o := by
  obtain ⟨sg, d, r, hp⟩ := parts l
  have HP := hp
  obtain ⟨hl, hs, hd, hr⟩ := hp
  cases r with
  | nil =>
    exfalso
    have hm := List.mem_of_getLast? hi
    rw [hl, List.append_nil] at hm
    rcases List.mem_append.1 hm with h | h
    · rcases hs with ⟨rfl, _⟩ | rfl | rfl <;> simp at h
    · exact absurd (List.all_eq_true.1 hd _ h) (by decide)
  | cons c t =>
    obtain ⟨r', hr'⟩ := last_i hl hi
    have hc : isD c = false := hr c rfl
    have hb : l = (sg ++ (d ++ r')) ++ [105] := by rw [hl, hr']; simp
    by_cases h43 : sg = [43]
    · refine ⟨none, ⟨sg, d, c :: t, HP, .inl ⟨h43, rfl⟩⟩, ?_⟩
      subst h43
      rcases last_sg ([43] ++ (d ++ r')) with h | ⟨p, c2, q, e, hpn, hc2, hq⟩
      · exact .inr (.inr (.inl ⟨_, none, hb, by simp, h, amS_no (c := 43) (by simp) (by decide), rfl⟩))
      · refine .inr (.inr (.inr ⟨p, c2, q, by rw [hb, e], hpn, hc2, hq, .inl ⟨?_, rfl⟩⟩))
        cases p with
        | nil => exact absurd rfl hpn
        | cons a p =>
          have : (43 : UInt8) = a := (List.cons.inj e).1
          subst this; exact zokL_plus
    · have hs' : (sg = [] ∧ ∀ x, (d ++ c :: t).head? = some x → x ≠ 43 ∧ x ≠ 45) ∨ sg = [45] := by
        rcases hs with h | h | h
        · exact .inl h
        · exact absurd h h43
        · exact .inr h
      have hc45 : d = [] → sg = [] → c ≠ 43 ∧ c ≠ 45 := fun e1 e2 => by
        rcases hs' with ⟨_, h⟩ | h
        · subst e1; exact h c rfl
        · rw [e2] at h; exact absurd h (by simp)
      cases r' with
      | nil =>
        -- sign, digits, i
        have er : c :: t = [105] := hr'
        refine ⟨some (0, snN sg (amN d)), ⟨sg, d, c :: t, HP, .inr (.inl ⟨h43, er, rfl⟩)⟩, ?_⟩
        rw [List.append_nil] at hb
        rcases hs' with ⟨rfl, _⟩ | rfl
        · refine .inr (.inr (.inl ⟨d, some (amN d), hb, ?_, fun x hx => all_sg hd x (List.mem_of_mem_tail hx), amS_D hd, ?_⟩))
          · cases d with
            | nil => simp
            | cons a d' =>
              rw [List.all_cons, Bool.and_eq_true] at hd
              simpa using isD_45 hd.1
          · show _ = some ((0 : Int), ((amN d : Nat) : Int))
            unfold snN; rw [if_neg (by simp)]
        · refine .inr (.inl ⟨d, some (amN d), hb, all_sg hd, amS_D hd, ?_⟩)
          show _ = some ((0 : Int), -((amN d : Nat) : Int))
          unfold snN; rw [if_pos rfl]
      | cons c' t' =>
        obtain ⟨rfl, et⟩ := List.cons.inj hr'
        have hr105 : c :: t ≠ [105] := fun e => by
          rw [hr'] at e
          have := congrArg List.length e
          simp at this
        by_cases hdn : d = []
        · refine ⟨none, ⟨sg, d, c :: t, HP, .inr (.inr (.inl ⟨h43, hr105, hdn, rfl⟩))⟩, ?_⟩
          subst hdn
          rcases last_sg (sg ++ ([] ++ c :: t')) with h | ⟨p, c2, q, e, hpn, hc2, hq⟩
          · rcases hs' with ⟨rfl, hh⟩ | rfl
            · exact .inr (.inr (.inl ⟨_, none, hb, by simpa using (hc45 rfl rfl).2, h, amS_no (c := c) (by simp) hc, rfl⟩))
            · exact .inr (.inl ⟨c :: t', none, hb, h, amS_no (c := c) (by simp) hc, rfl⟩)
          · refine .inr (.inr (.inr ⟨p, c2, q, by rw [hb, e], hpn, hc2, hq, .inl ⟨?_, rfl⟩⟩))
            cases p with
            | nil => exact absurd rfl hpn
            | cons a p =>
              rcases hs' with ⟨rfl, hh⟩ | rfl
              · have ha : c = a := (List.cons.inj e).1
                subst ha
                exact zokL_no (sg := []) (d := []) (.inl ⟨rfl, fun _ => (hc45 rfl rfl).2⟩) rfl hc
              · obtain ⟨ha, e2⟩ := List.cons.inj e
                subst ha
                cases p with
                | nil => exact zokL_0 (.inr rfl)
                | cons a2 p =>
                  have ha : c = a2 := (List.cons.inj e2).1
                  subst ha
                  exact zokL_no (sg := [45]) (d := []) (.inr rfl) rfl hc
        · obtain ⟨sg2, d2, r2, hp2⟩ := parts (c :: t)
          have HP2 := hp2
          obtain ⟨hl2, hs2, hd2, hrr2⟩ := hp2
          have hdh : ∀ x, (d ++ []).head? = some x → x ≠ 43 ∧ x ≠ 45 := fun x hx => by
            rw [List.append_nil] at hx
            cases d with
            | nil => exact absurd rfl hdn
            | cons a d' =>
              rw [List.all_cons, Bool.and_eq_true] at hd
              obtain rfl : a = x := by simpa using hx
              exact ⟨isD_43 hd.1, isD_45 hd.1⟩
          have hs3 : (sg = [] ∧ ∀ x, (d ++ []).head? = some x → x ≠ 43 ∧ x ≠ 45) ∨ sg = [45] := hs'.imp (fun h => ⟨h.1, hdh⟩) id
          by_cases h2 : r2 = [105]
          · subst h2
            have hsg2 : sg2 = [43] ∨ sg2 = [45] := by
              rcases hs2 with ⟨rfl, _⟩ | h | h
              · exfalso
                cases d2 with
                | nil => exact hr105 hl2
                | cons a d2 =>
                  rw [List.all_cons, Bool.and_eq_true] at hd2
                  have : c = a := (List.cons.inj hl2).1
                  subst this; rw [hd2.1] at hc; exact absurd hc (by decide)
              · exact .inl h
              · exact .inr h
            refine ⟨some (snN sg (pval d), snN sg2 (amN d2)), ⟨sg, d, c :: t, HP, .inr (.inr (.inr (.inr ⟨h43, hdn, by simp, hr105, sg2, d2, [105], HP2, .inl ⟨rfl, hsg2, rfl⟩⟩)))⟩, ?_⟩
            have e0 : zokL (sg ++ d) = true := zokL_of (r := []) hs3 hd hdn
            have e1 := zvN_of hs3 hd hdn
            have hsd : sg ++ d ≠ [] := fun e => hdn (List.append_eq_nil_iff.1 e).2
            rcases hsg2 with rfl | rfl
            · refine .inr (.inr (.inr ⟨sg ++ d, 43, d2, by rw [hl, hl2]; simp, hsd, by decide, all_sg hd2, .inr ⟨e0, some (amN d2), amS_D hd2, ?_⟩⟩))
              rw [e1]; unfold snN
              show _ = some (_, if (43 : UInt8) = 45 then _ else _)
              rw [if_neg (show ¬ ([43] : List UInt8) = [45] by decide), if_neg (show ¬ (43 : UInt8) = 45 by decide)]
            · refine .inr (.inr (.inr ⟨sg ++ d, 45, d2, by rw [hl, hl2]; simp, hsd, by decide, all_sg hd2, .inr ⟨e0, some (amN d2), amS_D hd2, ?_⟩⟩))
              rw [e1]; unfold snN
              show _ = some (_, if (45 : UInt8) = 45 then _ else _)
              rw [if_pos (show ([45] : List UInt8) = [45] from rfl), if_pos (show (45 : UInt8) = 45 from rfl)]
          · refine ⟨none, ⟨sg, d, c :: t, HP, .inr (.inr (.inr (.inr ⟨h43, hdn, by simp, hr105, sg2, d2, r2, HP2, .inr ⟨h2, rfl⟩⟩)))⟩, ?_⟩
            have eZ : ∀ a', zokL (sg ++ (d ++ c :: a')) = false := fun a' => zokL_no (hs'.imp (fun h => ⟨h.1, fun e => absurd e hdn⟩) id) hd hc
            have eT : sgB c = true → ∃ a, amS t' a ∧ a = none := fun hsc => by
              by_cases ht : t'.all isD = true
              · exfalso
                have hc2 : c = 43 ∨ c = 45 := by
                  unfold sgB at hsc
                  rw [Bool.or_eq_true, beq_iff_eq, beq_iff_eq] at hsc; exact hsc
                rcases hs2 with ⟨rfl, hh⟩ | rfl | rfl
                · have := hh c (by rw [List.nil_append] at hl2; rw [← hl2]; rfl)
                  rcases hc2 with h | h
                  · exact this.1 h
                  · exact this.2 h
                · have e2 : t = d2 ++ r2 := (List.cons.inj hl2).2
                  rw [et] at e2
                  exact h2 (span_one e2 ht hd2 (fun x hx => by
                    obtain rfl : 105 = x := by simpa using hx
                    exact isD_105) hrr2).2.symm
                · have e2 : t = d2 ++ r2 := (List.cons.inj hl2).2
                  rw [et] at e2
                  exact h2 (span_one e2 ht hd2 (fun x hx => by
                    obtain rfl : 105 = x := by simpa using hx
                    exact isD_105) hrr2).2.symm
              · have ht : t'.all isD = false := by simpa using ht
                obtain ⟨x, hx, hxd⟩ := List.all_eq_false.1 ht
                exact ⟨none, amS_no hx (by simpa using hxd), rfl⟩
            rcases last_sg (sg ++ (d ++ c :: t')) with h | ⟨p, c2, q, e, hpn, hc2, hq⟩
            · rcases hs' with ⟨rfl, hh⟩ | rfl
              · refine .inr (.inr (.inl ⟨_, none, hb, ?_, h, amS_no (c := c) (by simp) hc, rfl⟩))
                cases d with
                | nil => exact absurd rfl hdn
                | cons a d' =>
                  rw [List.all_cons, Bool.and_eq_true] at hd
                  simpa using isD_45 hd.1
              · exact .inr (.inl ⟨d ++ c :: t', none, hb, h, amS_no (c := c) (by simp) hc, rfl⟩)
            · rw [← List.append_assoc] at e
              have e9 : l = p ++ c2 :: q ++ [105] := by rw [hb, ← List.append_assoc, e]
              rcases List.append_eq_append_iff.1 e with ⟨a', h1, h3⟩ | ⟨a', h1, h3⟩
              · cases a' with
                | nil =>
                  rw [List.append_nil] at h1
                  obtain ⟨rfl, rfl⟩ := List.cons.inj h3
                  obtain ⟨a, ha, rfl⟩ := eT hc2
                  refine .inr (.inr (.inr ⟨p, c, t', e9, hpn, hc2, hq, .inr ⟨by rw [h1]; exact zokL_of (r := []) hs3 hd hdn, none, ha, rfl⟩⟩))
                | cons x a' =>
                  obtain ⟨rfl, _⟩ := List.cons.inj h3
                  refine .inr (.inr (.inr ⟨p, c2, q, e9, hpn, hc2, hq, .inl ⟨by rw [h1, List.append_assoc]; exact eZ a', rfl⟩⟩))
              · cases a' with
                | nil =>
                  rw [List.append_nil] at h1
                  obtain ⟨rfl, rfl⟩ := List.cons.inj h3
                  obtain ⟨a, ha, rfl⟩ := eT hc2
                  refine .inr (.inr (.inr ⟨p, _, _, e9, hpn, hc2, hq, .inr ⟨by rw [← h1]; exact zokL_of (r := []) hs3 hd hdn, none, ha, rfl⟩⟩))
                | cons x a' =>
                  exfalso
                  obtain ⟨rfl, _⟩ := List.cons.inj h3
                  have hm : c2 ∈ d := by
                    rcases hs' with ⟨rfl, _⟩ | rfl
                    · rw [List.nil_append] at h1; rw [h1]; simp
                    · cases p with
                      | nil => exact absurd rfl hpn
                      | cons b p =>
                        have h9 : d = p ++ c2 :: a' := (List.cons.inj h1).2
                        rw [h9]; simp
                  rw [all_sg hd _ hm] at hc2
                  exact absurd hc2 (by decide)
theorem same_n {l : List UInt8} (hi : l.getLast? ≠ some 105) : ∃ o, PgS l o ∧ RfS l o := by
  obtain ⟨sg, d, r, hp⟩ := parts l
  have HP := hp
  obtain ⟨hl, hs, hd, hr⟩ := hp
  by_cases h43 : sg = [43]
  · exact ⟨none, ⟨sg, d, r, HP, .inl ⟨h43, rfl⟩⟩, .inl ⟨hi, .inr ⟨by rw [hl, h43]; exact zokL_plus, rfl⟩⟩⟩
  · have hs' : (sg = [] ∧ ∀ x, (d ++ r).head? = some x → x ≠ 43 ∧ x ≠ 45) ∨ sg = [45] := by
      rcases hs with h | h | h
      · exact .inl h
      · exact absurd h h43
      · exact .inr h
    have h105 : ∀ s : List UInt8, r ≠ s ++ [105] := fun s e => hi (by rw [hl, e]; simp)
    cases r with
    | nil =>
      by_cases hdn : d = []
      · refine ⟨none, ⟨sg, d, [], HP, .inr (.inr (.inl ⟨h43, by simp, hdn, rfl⟩))⟩, .inl ⟨hi, .inr ⟨?_, rfl⟩⟩⟩
        rw [hl, hdn, List.append_nil, List.append_nil]
        exact zokL_0 (hs'.imp (·.1) id)
      · refine ⟨_, ⟨sg, d, [], HP, .inr (.inr (.inr (.inl ⟨h43, hdn, rfl, rfl⟩)))⟩, .inl ⟨hi, .inl ⟨?_, ?_⟩⟩⟩
        · rw [hl, List.append_nil]; exact zokL_of (r := []) hs' hd hdn
        · rw [hl, List.append_nil, zvN_of hs' hd hdn]
    | cons c t =>
      have hc : isD c = false := hr c rfl
      have e0 : zokL l = false := by
        rw [hl]
        exact zokL_no (hs'.imp (fun h => ⟨h.1, fun e => by subst e; exact (h.2 c rfl).2⟩) id) hd hc
      by_cases hdn : d = []
      · exact ⟨none, ⟨sg, d, c :: t, HP, .inr (.inr (.inl ⟨h43, h105 [], hdn, rfl⟩))⟩, .inl ⟨hi, .inr ⟨e0, rfl⟩⟩⟩
      · obtain ⟨sg2, d2, r2, hp2⟩ := parts (c :: t)
        have HP2 := hp2
        refine ⟨none, ⟨sg, d, c :: t, HP, .inr (.inr (.inr (.inr ⟨h43, hdn, by simp, h105 [], sg2, d2, r2, HP2, .inr ⟨fun e => ?_, rfl⟩⟩)))⟩, .inl ⟨hi, .inr ⟨e0, rfl⟩⟩⟩
        refine h105 (sg2 ++ d2) ?_
        rw [hp2.1, e, List.append_assoc]
theorem same (l : List UInt8) : ∃ o, PgS l o ∧ RfS l o := by
  by_cases hi : l.getLast? = some 105
  · exact same_i hi
  · exact same_n hi
open Go
section
variable {P : Program} {ops : Array Oper} {md : Region.Mode} {C : World → Prop}
/-- An operation that ends well: a value and a world. -/
def Calm (P : Program) (o : Oper) (a : Act) (w : World) (next : Value → World → Prop) : Prop :=
  match (execOp a.eval o).run P w with
  | .ok (.value v) w' => next v w'
  | .ok .skip w' => next undef w'
  | .ok (.enter f args) w' => Calls P f args w' fun e w'' => ∃ v, e = .returned v ∧ next v w''
  | .ok (.row row args) w' => Rows P row args w' next
  | .ok (.round l f t asg bd) w' => RoundIn Fence.wide 0 P l f t asg bd w' fun e w'' => ∃ v, e = .returned v ∧ next v w''
  | _ => False
theorem Calm.mono {o : Oper} {a : Act} {w : World} {K K' : Value → World → Prop} (h : ∀ v w, K v w → K' v w) (hh : Calm P o a w K) : Calm P o a w K' := by
  unfold Calm at *
  generalize (execOp a.eval o).run P w = r at *
  cases r with
  | ok n w' =>
    cases n <;> simp only at hh ⊢
    case value => exact h _ _ hh
    case skip => exact h _ _ hh
    case enter => exact hh.mono fun e w'' ⟨v, h1, h2⟩ => ⟨v, h1, h _ _ h2⟩
    case row => exact Rows.mono hh fun v w'' h2 => h _ _ h2
    case round => exact RoundIn.mono hh fun e w'' ⟨v, h1, h2⟩ => ⟨v, h1, h _ _ h2⟩
  | halt x w' => simp only at hh
/-- A frame of a function, or of a round, of whatever program. -/
abbrev FW (r : Option Nat) : Fence := { Fence.wide with round := r }
theorem Calm.nodefer {o : Oper} {a : Act} {w : World} {K : Value → World → Prop} (hh : Calm P o a w K) (c : Call) : o.op ≠ .defer c := fun e => by
  unfold Calm execOp at hh
  rw [e] at hh
  simp only [Sem.run_bind] at hh
  cases h : (resolve a.eval c o.type).run P w <;> simp [h, Result.andThen] at hh
theorem Calm.wpIn {r : Option Nat} {m : Nat} {o : Oper} {a : Act} {w : World} {K : Act → World → Prop} {Q' : Exit → Act → World → Prop} (hh : Calm P o a w fun v w' => K (a.put o.dst v) w') : o.wpIn (FW r) m P a w K Q' := by
  have hd := hh.nodefer
  unfold Calm at hh
  unfold Oper.wpIn
  refine ⟨fun _ _ => trivial, ?_⟩
  rw [show (FW r).round = r from rfl, Oper.semAt_eq _ _ _ hd]
  generalize (execOp a.eval o).run P w = r at *
  cases r with
  | ok n w' =>
    cases n <;> simp only at hh <;> simp only [Oper.uponIn]
    case value => exact hh
    case skip => exact hh
    case enter =>
      have h1 := (callsIn_wide (n := m - 1)).2 hh
      refine ⟨fun h => (by cases h), CallsIn.mono (show CallsIn (FW _) _ _ _ _ _ _ from h1) fun e w'' ⟨v, h1, h2⟩ => ?_⟩
      subst h1; exact h2
    case row =>
      refine ⟨fun h => (by cases h), fun c cs _ => ?_⟩
      obtain ⟨v, w'', r, s⟩ := hh c cs
      exact ⟨v, w'', r, stepsIn_wide.2 s⟩
    case round =>
      refine ⟨fun h => (by cases h), RoundIn.mono (show RoundIn (FW _) _ _ _ _ _ _ _ _ _ from ⟨hh.1, fun c cs _ => hh.2 c cs (room_wide _)⟩) fun e w'' ⟨v, h1, h2⟩ => ?_⟩
      subst h1; exact h2
  | halt x w' => simp only at hh
def cOp (P : Program) (ops : Array Oper) (C : World → Prop) (i : Nat) (K : Act → World → Prop) (a : Act) (w : World) : Prop :=
  match ops[i]? with
  | none => K a w
  | some o => if Region.wanted o (yielded ops a.tmps) then Calm P o a w (fun v w' => C w' ∧ K (a.put o.dst v) w') else K (a.put o.dst undef) w
def wpAnyC (P : Program) (md : Region.Mode) (ops : Array Oper) (C : World → Prop) (Q : Act → World → Prop) : Nat → Array Bool → Act → World → Prop
  | 0, listed, a, w => Region.ready md ops listed = [] ∧ Q a w
  | fuel + 1, listed, a, w => (Region.ready md ops listed = [] → Q a w) ∧ ∀ i ∈ Region.ready md ops listed, cOp P ops C i (wpAnyC P md ops C Q fuel (listed.setIfInBounds i true)) a w
theorem wpOpIn_of_cOp {r : Option Nat} {m : Nat} {i : Nat} {a : Act} {w : World} {K K' : Act → World → Prop} {Q' : Exit → Act → World → Prop} (h : ∀ a w, K a w → K' a w) (hh : cOp P ops C i K a w) : wpOpIn (FW r) m P ops Q' i K' a w := by
  unfold cOp at hh
  unfold wpOpIn
  split
  · rename_i ho; simp only [ho] at hh; exact h _ _ hh
  · rename_i o ho
    simp only [ho] at hh
    split
    · rename_i hw; simp only [hw, if_true] at hh; exact Calm.wpIn (hh.mono fun v w' h3 => h _ _ h3.2)
    · rename_i hw; simp only [hw] at hh; exact ⟨fun _ _ => trivial, h _ _ hh⟩
theorem wpAnyIn_of_c {r : Option Nat} {m : Nat} {Q : Act → World → Prop} {Q' : Exit → Act → World → Prop} (hQ : ∀ a w, Q a w → Q' .normal a w) : ∀ (fuel : Nat) (listed : Array Bool) (a : Act) (w : World),
    wpAnyC P md ops C Q fuel listed a w → wpAnyIn (FW r) m P md ops Q' fuel listed a w
  | 0, _, _, _, h => ⟨h.1, hQ _ _ h.2⟩
  | fuel + 1, _, _, _, h => ⟨fun h0 => hQ _ _ (h.1 h0), fun i hi => wpOpIn_of_cOp (fun a' w' h3 => wpAnyIn_of_c hQ fuel _ a' w' h3) (h.2 i hi)⟩
theorem cOp_mono {i : Nat} {a : Act} {w : World} {K K' : Act → World → Prop} (hw : C w) (h : ∀ a w, C w → K a w → K' a w) (hh : cOp P ops C i K a w) : cOp P ops C i K' a w := by
  unfold cOp at *
  split
  · rename_i ho; simp only [ho] at hh; exact h _ _ hw hh
  · rename_i o ho
    simp only [ho] at hh
    split
    · rename_i hwt; simp only [hwt, if_true] at hh; exact hh.mono fun v w' h3 => ⟨h3.1, h _ _ h3.1 h3.2⟩
    · rename_i hwt; simp only [hwt] at hh; exact h _ _ hw hh
/-- In every world of the class this operation leaves v, and the world as it was. -/
def Stable (P : Program) (ops : Array Oper) (C : World → Prop) (o : Oper) (v : Value) (a : Act) : Prop :=
  (Region.wanted o (yielded ops a.tmps) = true ∧ ∀ w, C w → (execOp a.eval o).run P w = .ok (.value v) w) ∨
  (Region.wanted o (yielded ops a.tmps) = false ∧ v = undef)
theorem Stable.cOp {i : Nat} {o : Oper} {v : Value} {a : Act} {w : World} (hi : ops[i]? = some o) (hy : Stable P ops C o v a) (hC : C w) {K : Act → World → Prop} (h : K (a.put o.dst v) w) : cOp P ops C i K a w := by
  unfold Go.Proofs.YtlomgfgedkkhkaaGreatDoor.cOp
  simp only [hi]
  rcases hy with ⟨hw, hv⟩ | ⟨hw, rfl⟩
  · simp only [hw, if_true]
    unfold Calm
    rw [hv w hC]
    exact ⟨hC, h⟩
  · simp only [hw, Bool.false_eq_true, if_false]; exact h
theorem Stable.of_same {o : Oper} {v : Value} {a a' : Act} (hy : Stable P ops C o v a) (he : execOp a'.eval o = execOp a.eval o)
    (hw : Region.wanted o (yielded ops a'.tmps) = Region.wanted o (yielded ops a.tmps)) : Stable P ops C o v a' := by
  unfold Stable at *
  rw [he, hw]
  exact hy
theorem cOp_put {j : Nat} {oi oj : Oper} {v : Value} (hj : ops[j]? = some oj) (hap : oi.apart ops oj = true)
    (hsi : ∀ cs b, oi.op ≠ .select cs b) (hsj : ∀ cs b, oj.op ≠ .select cs b) {K : Act → World → Prop} {a : Act} {w : World}
    (hy : Stable P ops C oi v a) (h : cOp P ops C j K (a.put oi.dst v) w) :
    cOp P ops C j (fun a' w' => Stable P ops C oi v a' ∧ K (a'.put oi.dst v) w') a w := by
  obtain ⟨h1, h2, h3⟩ := Oper.apart_spec hap
  have keep : ∀ (a : Act), Stable P ops C oi v a → ∀ u, Stable P ops C oi v (a.put oj.dst u) := fun a hy u =>
    hy.of_same (execOp_put oi hsi a oj.dst u h3) (wanted_put oi a oj.dst u h3)
  unfold Go.Proofs.YtlomgfgedkkhkaaGreatDoor.cOp at *
  simp only [hj] at *
  rw [wanted_put oj a oi.dst v h1] at h
  split
  · rename_i hw
    simp only [hw, if_true] at h
    unfold Calm at h ⊢
    rw [execOp_put oj hsj a oi.dst v h1] at h
    have conv : ∀ u w', C w' ∧ K ((a.put oi.dst v).put oj.dst u) w' → C w' ∧ Stable P ops C oi v (a.put oj.dst u) ∧ K ((a.put oj.dst u).put oi.dst v) w' := fun u w' ⟨c1, c2⟩ =>
      ⟨c1, keep a hy u, by rw [← Act.put_comm a v u h2]; exact c2⟩
    generalize (execOp a.eval oj).run P w = r at *
    cases r with
    | ok n w' =>
      cases n <;> simp only at h ⊢
      case value => exact conv _ _ h
      case skip => exact conv _ _ h
      case enter => exact h.mono fun e w'' ⟨u, e1, e2⟩ => ⟨u, e1, conv _ _ e2⟩
      case row => exact Rows.mono h fun u w'' e2 => conv _ _ e2
      case round => exact RoundIn.mono h fun e w'' ⟨u, e1, e2⟩ => ⟨u, e1, conv _ _ e2⟩
    | halt x w' => simp only at h
  · rename_i hw
    simp only [hw] at h
    exact ⟨keep a hy _, by rw [← Act.put_comm a v undef h2]; exact h⟩
/-- A stable operation that may come up now may be taken first. -/
theorem wpAnyC_first {Q : Act → World → Prop} {i : Nat} {oi : Oper} {v : Value} (hi : ops[i]? = some oi) (hsel : ∀ (j : Nat) (o : Oper) cs b, ops[j]? = some o → o.op ≠ .select cs b) :
    ∀ (fuel : Nat) (listed : Array Bool) (a : Act) (w : World), C w →
      (∀ j oj, ops[j]? = some oj → j ≠ i → listed.getD j true = false → (∀ e ∈ oj.after, Region.binds md e = true → e.on ≠ i) → oi.apart ops oj = true) →
      i ∈ Region.ready md ops listed → Stable P ops C oi v a →
      wpAnyC P md ops C Q fuel (listed.setIfInBounds i true) (a.put oi.dst v) w → wpAnyC P md ops C Q (fuel + 1) listed a w := by
  intro fuel
  induction fuel with
  | zero =>
    intro listed a w hC _ hr hy H
    refine ⟨fun h => (by rw [h] at hr; cases hr), fun j hj => ?_⟩
    by_cases hji : j = i
    · subst hji; exact hy.cOp hi hC H
    · have := ready_mono hj hji
      rw [H.1] at this
      cases this
  | succ fuel ih =>
    intro listed a w hC hfree hr hy H
    refine ⟨fun h => (by rw [h] at hr; cases hr), fun j hj => ?_⟩
    by_cases hji : j = i
    · subst hji; exact hy.cOp hi hC H
    · have h1 := H.2 j (ready_mono hj hji)
      obtain ⟨hjun, oj, hoj, hall⟩ := mem_ready.1 hj
      have hnot : ∀ e ∈ oj.after, Region.binds md e = true → e.on ≠ i := fun e he hb heq => by
        have h1 := hall e he hb
        have h0 := (mem_ready.1 hr).1
        rw [heq] at h1
        rcases Nat.lt_or_ge i listed.size with h' | h'
        · simp [h'] at h0 h1; rw [h0] at h1; cases h1
        · simp [Array.getElem?_eq_none h'] at h1
      have h2 := cOp_put hoj (hfree j oj hoj hji hjun hnot) (fun cs b => hsel i oi cs b hi) (fun cs b => hsel j oj cs b hoj) hy h1
      have hfree' : ∀ k ok, ops[k]? = some ok → k ≠ i → (listed.setIfInBounds j true).getD k true = false →
          (∀ e ∈ ok.after, Region.binds md e = true → e.on ≠ i) → oi.apart ops ok = true := fun k ok hk hki hun hno => by
        refine hfree k ok hk hki ?_ hno
        by_cases hjk : j = k
        · subst hjk; exact hjun
        · rw [getD_set_ne true hjk] at hun; exact hun
      refine cOp_mono hC (fun a' w' hC' h3 => ih (listed.setIfInBounds j true) a' w' hC' hfree' (ready_mono hr (Ne.symm hji)) h3.1 ?_) h2
      rw [Array.setIfInBounds_comm _ _ hji]
      exact h3.2
/-- One walk: a stable operation that may come up; or the only one that may come up. -/
def wpLx (P : Program) (md : Region.Mode) (ops : Array Oper) (C : World → Prop) (Q : Act → World → Prop) : Nat → Array Bool → Act → World → Prop
  | 0, listed, a, w => Region.ready md ops listed = [] ∧ Q a w
  | fuel + 1, listed, a, w =>
    (∃ i o v, ops[i]? = some o ∧ Stable P ops C o v a ∧ Region.free md ops listed i = true ∧ (Region.ready md ops listed).contains i = true ∧ wpLx P md ops C Q fuel (listed.setIfInBounds i true) (a.put o.dst v) w) ∨
    (∃ k o, ops[k]? = some o ∧ Region.ready md ops listed = [k] ∧ if Region.wanted o (yielded ops a.tmps) then Calm P o a w (fun v w' => C w' ∧ wpLx P md ops C Q fuel (listed.setIfInBounds k true) (a.put o.dst v) w') else wpLx P md ops C Q fuel (listed.setIfInBounds k true) (a.put o.dst undef) w)
theorem wpLx_st {Q : Act → World → Prop} {o : Oper} (i : Nat) {fuel : Nat} {listed : Array Bool} {a : Act} {w : World} {v : Value} (hi : ops[i]? = some o) (h : ∀ w', C w' → (execOp a.eval o).run P w' = .ok (.value v) w')
    (hw : Region.wanted o (yielded ops a.tmps) = true) (hf : Region.free md ops listed i = true) (hr : (Region.ready md ops listed).contains i = true)
    (hn : wpLx P md ops C Q fuel (listed.setIfInBounds i true) (a.put o.dst v) w) : wpLx P md ops C Q (fuel + 1) listed a w :=
  .inl ⟨i, o, v, hi, .inl ⟨hw, h⟩, hf, hr, hn⟩
theorem wpLx_call {Q : Act → World → Prop} {o : Oper} (k : Nat) {fuel : Nat} {listed : Array Bool} {a : Act} {w : World} (hi : ops[k]? = some o)
    (hr : Region.ready md ops listed = [k]) (hw : Region.wanted o (yielded ops a.tmps) = true)
    (h : ∀ K : Value → World → Prop, (∀ v w', C w' → wpLx P md ops C Q fuel (listed.setIfInBounds k true) (a.put o.dst v) w' → K v w') → Calm P o a w K) : wpLx P md ops C Q (fuel + 1) listed a w :=
  .inr ⟨k, o, hi, hr, by rw [if_pos hw]; exact h _ (fun _ _ h1 h2 => ⟨h1, h2⟩)⟩
theorem wpLx_nil {Q : Act → World → Prop} {listed : Array Bool} {a : Act} {w : World} (hr : Region.ready md ops listed = []) (h : Q a w) : wpLx P md ops C Q 0 listed a w := ⟨hr, h⟩
theorem wpAnyC_of_lx {Q : Act → World → Prop} (hs : Region.noSelect ops = true) : ∀ (fuel : Nat) (listed : Array Bool) (a : Act) (w : World), C w →
    wpLx P md ops C Q fuel listed a w → wpAnyC P md ops C Q fuel listed a w
  | 0, _, _, _, _, h => h
  | fuel + 1, listed, a, w, hC, h => by
    rcases h with ⟨i, o, v, h0, hst, hf, hr, h⟩ | ⟨k, o, h0, hr, h⟩
    · exact wpAnyC_first h0 (Region.noSelect_spec hs) fuel listed a w hC (Region.free_spec h0 hf) (by simpa using hr) hst (wpAnyC_of_lx hs fuel _ _ w hC h)
    · refine ⟨fun h3 => (by rw [h3] at hr; cases hr), fun i hi => ?_⟩
      rw [hr] at hi
      obtain rfl : i = k := by simpa using hi
      unfold Go.Proofs.YtlomgfgedkkhkaaGreatDoor.cOp
      simp only [h0]
      split
      · rename_i hw
        simp only [hw, if_true] at h
        exact h.mono fun u w' ⟨c1, c2⟩ => ⟨c1, wpAnyC_of_lx hs fuel _ _ w' c1 c2⟩
      · rename_i hw
        simp only [hw] at h
        exact wpAnyC_of_lx hs fuel _ _ w hC h
/-- One walk serves every order. -/
theorem wp_region_lx {id : Nat} {Q : Exit → Act → World → Prop} {a : Act} {w : World} {l : List Oper} (C : World → Prop) (hm : P.follows .mixedOrders = true) (hs : Region.noSelect l.toArray = true) (hC : C w.drew)
    (h : wpLx P .any l.toArray C (Q .normal) l.length (Array.replicate l.length false) a w.drew) : (Code.region id l.toArray true).wp P Q a w := by
  refine wpIn_wide (n := 0) |>.1 (show (Code.region id l.toArray true).wpIn (FW none) 0 P Q a w from wpIn_region_any hm ?_)
  have := wpAnyC_of_lx (P := P) (md := .any) (C := C) (Q := Q .normal) hs l.length (Array.replicate l.length false) a w.drew hC h
  have h3 := wpAnyIn_of_c (r := none) (m := 0) (Q' := Q) (fun a w hq => hq) _ _ _ _ this
  simpa using h3
end
section
variable {P : Program} {l : List Oper} {md : Region.Mode} {C : World → Prop}
def nthO : List Oper → Nat → Option Oper
  | [], _ => none
  | o :: _, 0 => some o
  | _ :: l, n + 1 => nthO l n
theorem nthO_eq : ∀ (l : List Oper) (i : Nat), l[i]? = nthO l i
  | [], _ => by simp [nthO]
  | _ :: _, 0 => by simp [nthO]
  | _ :: l, n + 1 => by simp [nthO, nthO_eq l n]
def bot : Exit → Act → World → Prop := fun _ _ _ => False
/-- What yields a value in the world that it got. -/
def isV (o : Oper) : Bool :=
  match o.op with
  | .move _ | .assign _ | .pick .. | .load .. | .build .. | .fieldAddr .. | .field .. | .indexAddr .. | .index .. | .binOp .. | .unOp .. | .convert .. | .slice .. | .extract .. | .makeInterface .. | .makeFunc .. | .nilCheck _ => true
  | _ => false
theorem isV_value {ρ : Operand → Value} {o : Oper} (h : isV o = true) (hn : ∀ x, o.op ≠ .nilCheck x) : ∃ s : Sem Value, execOp ρ o = (do pure (.value (← s))) := by
  unfold isV at h
  unfold execOp
  generalize o.op = p at *
  cases p
  case pick c a b => exact ⟨(fun t => if t = true then ρ a else ρ b) <$> asBool (ρ c), by simp⟩
  case nilCheck x => exact absurd rfl (hn x)
  all_goals first | (exfalso; simp at h; done) | exact ⟨_, rfl⟩ | exact ⟨pure _, rfl⟩
theorem isV_run {ρ : Operand → Value} {o : Oper} (h : isV o = true) {n : Next} {w w' : World} (hr : (execOp ρ o).run P w = .ok n w') : ∃ v, n = .value v := by
  by_cases hn : ∃ x, o.op = .nilCheck x
  · obtain ⟨x, hx⟩ := hn
    unfold execOp at hr
    rw [hx] at hr
    simp only at hr
    split at hr
    · exact absurd hr (by simp [runtimePanic])
    · exact absurd hr (by simp [runtimePanic])
    · exact absurd hr (by simp [runtimePanic])
    · split at hr
      · exact absurd hr (by simp [runtimePanic])
      · simp only [Sem.run_bind] at hr
        generalize Sem.run P program w = r at hr
        cases r with
        | halt e w2 => simp only [Result.andThen, reduceCtorEq] at hr
        | ok a w2 =>
          simp only [Result.andThen] at hr
          generalize Sem.run P (nilAhead _ _ _ _) w2 = r at hr
          cases r with
          | halt e w3 => simp only [reduceCtorEq] at hr
          | ok b w3 =>
            simp only at hr
            split at hr
            · exact absurd hr (by simp [unsupported, Result.andThen])
            · simp only [Sem.run_pure, Result.ok.injEq] at hr; exact ⟨_, hr.1.symm⟩
      · simp only [Sem.run_pure, Result.ok.injEq] at hr; exact ⟨_, hr.1.symm⟩
    · simp only [Sem.run_pure, Result.ok.injEq] at hr; exact ⟨_, hr.1.symm⟩
  obtain ⟨s, hs⟩ := isV_value (ρ := ρ) h fun x hx => hn ⟨x, hx⟩
  rw [hs] at hr
  rw [Sem.run_bind] at hr
  generalize s.run P w = r at hr
  cases r with
  | ok v w'' => simp only [Result.andThen, Sem.run_pure, Result.ok.injEq] at hr; exact ⟨v, hr.1.symm⟩
  | halt e w'' => simp only [Result.andThen, reduceCtorEq] at hr
/-- What a frame holds in an operation's slot. -/
def slotOf (d : Option Tmp) (a : Act) : Value := match d with | some d => a.tmps.getD d undef | none => undef
def inB (d : Option Tmp) (a : Act) : Bool := match d with | some d => decide (d < a.tmps.size) | none => false
theorem slotOf_put {d : Option Tmp} {a : Act} {v : Value} (h : inB d a = true) : slotOf d (a.put d v) = v := by
  cases d with
  | none => simp [inB] at h
  | some d =>
    simp only [inB, decide_eq_true_eq] at h
    simp [slotOf, Act.put, h]
variable {Q : Act → World → Prop} {a : Act} {w : World} {rest : List (Nat × Bool)} {o : Oper}
end
section
variable {P : Program} {l : List Oper} {md : Region.Mode} {C : World → Prop}
def ptr (p : Nat) : Value := .pointer (some ⟨p, 0, none⟩)
/-- The pointers that are there laid into a frame. -/
def putF (l : List Oper) (pt : Nat → Option Nat) : List Nat → Act → Act
  | [], a => a
  | j :: F, a => putF l pt F (match nthO l j, pt j with | some o, some p => a.put o.dst (ptr p) | _, _ => a)
/-- An operation that lies apart from all that float. -/
def apartF (l : List Oper) (o : Oper) (F : List Nat) : Bool := F.all fun j => match nthO l j with | some oj => oj.apart l.toArray o | none => true
theorem putF_put {o : Oper} {v : Value} {pt : Nat → Option Nat} : ∀ {F : List Nat} {a : Act}, apartF l o F = true → putF l pt F (a.put o.dst v) = (putF l pt F a).put o.dst v
  | [], _, _ => rfl
  | j :: F, a, h => by
    simp only [apartF, List.all_cons, Bool.and_eq_true] at h
    unfold putF
    cases hj : nthO l j with
    | none => simp only; exact putF_put (F := F) h.2
    | some oj =>
      simp only [hj] at h
      cases hp : pt j with
      | none => simp only; exact putF_put (F := F) h.2
      | some p =>
        simp only
        rw [← putF_put (F := F) h.2]
        congr 1
        have h2 := (Oper.apart_spec h.1).2.1
        exact (Act.put_comm a (ptr p) v h2).symm
theorem putF_exec {o : Oper} (hs : ∀ cs b, o.op ≠ .select cs b) {pt : Nat → Option Nat} : ∀ {F : List Nat} {a : Act}, apartF l o F = true → execOp (putF l pt F a).eval o = execOp a.eval o
  | [], _, _ => rfl
  | j :: F, a, h => by
    simp only [apartF, List.all_cons, Bool.and_eq_true] at h
    unfold putF
    rw [putF_exec hs (F := F) h.2]
    cases hj : nthO l j with
    | none => rfl
    | some oj =>
      simp only [hj] at h
      cases hp : pt j with
      | none => rfl
      | some p => exact execOp_put (ops := l.toArray) o hs a oj.dst (ptr p) (Oper.apart_spec h.1).1
theorem putF_wanted {o : Oper} {pt : Nat → Option Nat} : ∀ {F : List Nat} {a : Act}, apartF l o F = true → Region.wanted o (yielded l.toArray (putF l pt F a).tmps) = Region.wanted o (yielded l.toArray a.tmps)
  | [], _, _ => rfl
  | j :: F, a, h => by
    simp only [apartF, List.all_cons, Bool.and_eq_true] at h
    unfold putF
    rw [putF_wanted (F := F) h.2]
    cases hj : nthO l j with
    | none => rfl
    | some oj =>
      simp only [hj] at h
      cases hp : pt j with
      | none => rfl
      | some p => exact wanted_put (ops := l.toArray) o a oj.dst (ptr p) (Oper.apart_spec h.1).1
def setP (pt : Nat → Option Nat) (j p : Nat) : Nat → Option Nat := fun i => if i = j then some p else pt i
theorem putF_congr {pt pt' : Nat → Option Nat} : ∀ {F : List Nat} {a : Act}, (∀ j ∈ F, pt j = pt' j) → putF l pt F a = putF l pt' F a
  | [], _, _ => rfl
  | j :: F, a, h => by
    unfold putF
    rw [h j (by simp)]
    exact putF_congr (F := F) fun i hi => h i (by simp [hi])
/-- The floats' slots differ. -/
def sundry (l : List Oper) : List Nat → Bool
  | [] => true
  | j :: F => !F.contains j && (match nthO l j with | some oj => apartF l oj F && F.all (fun i => match nthO l i with | some oi => oi.apart l.toArray oj | none => true) | none => false) && sundry l F
theorem putF_set {pt : Nat → Option Nat} {j p : Nat} {o : Oper} (ho : nthO l j = some o) (hj : pt j = none) : ∀ {F : List Nat} {a : Act}, j ∈ F → sundry l F = true →
    (putF l pt F a).put o.dst (ptr p) = putF l (setP pt j p) F a
  | [], _, h, _ => by simp at h
  | i :: F, a, h, hs => by
    simp only [sundry, Bool.and_eq_true, Bool.not_eq_true', List.contains_eq_mem, decide_eq_false_iff_not] at hs
    obtain ⟨⟨h1, h2⟩, h3⟩ := hs
    by_cases hij : i = j
    · subst hij
      unfold putF
      rw [ho] at h2 ⊢
      simp only [Bool.and_eq_true] at h2
      rw [hj]
      simp only [setP, if_true]
      rw [← putF_put h2.1]
      exact putF_congr fun k hk => by unfold setP; rw [if_neg (fun e : k = i => h1 (e ▸ hk))]
    · have hm : j ∈ F := by rcases List.mem_cons.1 h with e | e; exact absurd e.symm hij; exact e
      unfold putF
      have e1 : setP pt j p i = pt i := by unfold setP; rw [if_neg hij]
      rw [e1]
      exact putF_set ho hj hm h3
/-- The classes of worlds, by number: what reads of one kind lean on. -/
def nthG : List (World → Prop) → Nat → World → Prop
  | [], _ => fun _ => True
  | G :: _, 0 => G
  | _ :: Gs, n + 1 => nthG Gs n
theorem nthG_all {Gs : List (World → Prop)} {w : World} (h : ∀ G ∈ Gs, G w) : ∀ g, nthG Gs g w := by
  induction Gs with
  | nil => intro g; trivial
  | cons G Gs ih =>
    intro g
    cases g with
    | zero => exact h G (by simp)
    | succ g => exact ih (fun G' h' => h G' (by simp [h'])) g
/-- Operation k keeps every class but those told in 'bad'. -/
def Keeps (Gs : List (World → Prop)) (bad : List (Nat × Nat)) (k : Nat) (w w' : World) : Prop := ∀ g, bad.contains (k, g) = false → nthG Gs g w → nthG Gs g w'
theorem Keeps.refl (Gs : List (World → Prop)) (bad : List (Nat × Nat)) (k : Nat) (w : World) : Keeps Gs bad k w w := fun _ _ h => h
def keepL (bad : List (Nat × Nat)) (k : Nat) : Nat → List (World → Prop) → World → Prop
  | _, [], _ => True
  | g, G :: Gs, w => (if bad.contains (k, g) = true then True else G w) ∧ keepL bad k (g + 1) Gs w
theorem keepL_get {bad : List (Nat × Nat)} {k : Nat} {w : World} : ∀ {Gs : List (World → Prop)} {n g : Nat}, keepL bad k n Gs w → bad.contains (k, n + g) = false → nthG Gs g w
  | [], _, _, _, _ => trivial
  | G :: Gs, n, 0, h, hb => by
    have h1 := h.1
    rw [Nat.add_zero] at hb
    rw [if_neg (by rw [hb]; exact Bool.false_ne_true)] at h1
    exact h1
  | G :: Gs, n, g + 1, h, hb => keepL_get (Gs := Gs) (n := n + 1) h.2 (by rw [show n + 1 + g = n + (g + 1) by omega]; exact hb)
theorem Keeps.of_l {Gs : List (World → Prop)} {bad : List (Nat × Nat)} {k : Nat} {w w' : World} (h : keepL bad k 0 Gs w') : Keeps Gs bad k w w' := fun g hg _ => keepL_get (n := 0) h (by rw [Nat.zero_add]; exact hg)
/-- Whatever order is picked; each operation keeps the classes that it must. -/
def wpAnyX (P : Program) (md : Region.Mode) (ops : Array Oper) (Gs : List (World → Prop)) (bad : List (Nat × Nat)) (Q : Act → World → Prop) : Nat → Array Bool → Act → World → Prop
  | 0, listed, a, w => Region.ready md ops listed = [] ∧ Q a w
  | fuel + 1, listed, a, w => (Region.ready md ops listed = [] → Q a w) ∧ ∀ i ∈ Region.ready md ops listed, cOp P ops (fun w' => Keeps Gs bad i w w') i (wpAnyX P md ops Gs bad Q fuel (listed.setIfInBounds i true)) a w
theorem wpAnyIn_of_x {r : Option Nat} {m : Nat} {ops : Array Oper} {Gs : List (World → Prop)} {bad : List (Nat × Nat)} {Q : Act → World → Prop} {Q' : Exit → Act → World → Prop} (hQ : ∀ a w, Q a w → Q' .normal a w) : ∀ (fuel : Nat) (listed : Array Bool) (a : Act) (w : World),
    wpAnyX P md ops Gs bad Q fuel listed a w → wpAnyIn (FW r) m P md ops Q' fuel listed a w
  | 0, _, _, _, h => ⟨h.1, hQ _ _ h.2⟩
  | fuel + 1, _, _, _, h => ⟨fun h0 => hQ _ _ (h.1 h0), fun i hi => wpOpIn_of_cOp (fun a' w' h3 => wpAnyIn_of_x hQ fuel _ a' w' h3) (h.2 i hi)⟩
theorem cOp_put2 {ops : Array Oper} {C C2 : World → Prop} {j : Nat} {oi oj : Oper} {v : Value} (hj : ops[j]? = some oj) (hap : oi.apart ops oj = true)
    (hsi : ∀ cs b, oi.op ≠ .select cs b) (hsj : ∀ cs b, oj.op ≠ .select cs b) {K : Act → World → Prop} {a : Act} {w : World}
    (hy : Stable P ops C2 oi v a) (h : cOp P ops C j K (a.put oi.dst v) w) :
    cOp P ops C j (fun a' w' => Stable P ops C2 oi v a' ∧ K (a'.put oi.dst v) w') a w := by
  obtain ⟨h1, h2, h3⟩ := Oper.apart_spec hap
  have keep : ∀ (a : Act), Stable P ops C2 oi v a → ∀ u, Stable P ops C2 oi v (a.put oj.dst u) := fun a hy u =>
    hy.of_same (execOp_put oi hsi a oj.dst u h3) (wanted_put oi a oj.dst u h3)
  unfold cOp at *
  simp only [hj] at *
  rw [wanted_put oj a oi.dst v h1] at h
  split
  · rename_i hw
    simp only [hw, if_true] at h
    unfold Calm at h ⊢
    rw [execOp_put oj hsj a oi.dst v h1] at h
    have conv : ∀ u w', C w' ∧ K ((a.put oi.dst v).put oj.dst u) w' → C w' ∧ Stable P ops C2 oi v (a.put oj.dst u) ∧ K ((a.put oj.dst u).put oi.dst v) w' := fun u w' ⟨c1, c2⟩ =>
      ⟨c1, keep a hy u, by rw [← Act.put_comm a v u h2]; exact c2⟩
    generalize (execOp a.eval oj).run P w = r at *
    cases r with
    | ok n w' =>
      cases n <;> simp only at h ⊢
      case value => exact conv _ _ h
      case skip => exact conv _ _ h
      case enter => exact h.mono fun e w'' ⟨u, e1, e2⟩ => ⟨u, e1, conv _ _ e2⟩
      case row => exact Rows.mono h fun u w'' e2 => conv _ _ e2
      case round => exact RoundIn.mono h fun e w'' ⟨u, e1, e2⟩ => ⟨u, e1, conv _ _ e2⟩
    | halt x w' => simp only at h
  · rename_i hw
    simp only [hw] at h
    exact ⟨keep a hy _, by rw [← Act.put_comm a v undef h2]; exact h⟩
theorem Stable.cOp2 {ops : Array Oper} {C C2 : World → Prop} {i : Nat} {o : Oper} {v : Value} {a : Act} {w : World} (hi : ops[i]? = some o) (hy : Stable P ops C2 o v a) (hC2 : C2 w) (hC : C w) {K : Act → World → Prop} (h : K (a.put o.dst v) w) : Go.Proofs.YtlomgfgedkkhkaaGreatDoor.cOp P ops C i K a w := by
  unfold Go.Proofs.YtlomgfgedkkhkaaGreatDoor.cOp
  simp only [hi]
  rcases hy with ⟨hw, hv⟩ | ⟨hw, rfl⟩
  · simp only [hw, if_true]
    unfold Calm
    rw [hv w hC2]
    exact ⟨hC, h⟩
  · simp only [hw, Bool.false_eq_true, if_false]; exact h
/-- What reads only what class G tells may be taken first, as long as G holds while it waits. -/
theorem wpAnyX_first {ops : Array Oper} {Gs : List (World → Prop)} {bad : List (Nat × Nat)} {g : Nat} {Q : Act → World → Prop} {i : Nat} {oi : Oper} {v : Value} (hi : ops[i]? = some oi) (hsel : ∀ (j : Nat) (o : Oper) cs b, ops[j]? = some o → o.op ≠ .select cs b)
    (hX : ∀ j oj, ops[j]? = some oj → (∀ e ∈ oj.after, Region.binds md e = true → e.on ≠ i) → bad.contains (j, g) = false) :
    ∀ (fuel : Nat) (listed : Array Bool) (a : Act) (w : World), nthG Gs g w →
      (∀ j oj, ops[j]? = some oj → j ≠ i → listed.getD j true = false → (∀ e ∈ oj.after, Region.binds md e = true → e.on ≠ i) → oi.apart ops oj = true) →
      i ∈ Region.ready md ops listed → Stable P ops (nthG Gs g) oi v a →
      wpAnyX P md ops Gs bad Q fuel (listed.setIfInBounds i true) (a.put oi.dst v) w → wpAnyX P md ops Gs bad Q (fuel + 1) listed a w := by
  intro fuel
  induction fuel with
  | zero =>
    intro listed a w hG _ hr hy H
    refine ⟨fun h => (by rw [h] at hr; cases hr), fun j hj => ?_⟩
    by_cases hji : j = i
    · subst hji; exact Stable.cOp2 hi hy hG (Keeps.refl _ _ _ _) H
    · have := ready_mono hj hji
      rw [H.1] at this
      cases this
  | succ fuel ih =>
    intro listed a w hG hfree hr hy H
    refine ⟨fun h => (by rw [h] at hr; cases hr), fun j hj => ?_⟩
    by_cases hji : j = i
    · subst hji; exact Stable.cOp2 hi hy hG (Keeps.refl _ _ _ _) H
    · have h1 := H.2 j (ready_mono hj hji)
      obtain ⟨hjun, oj, hoj, hall⟩ := mem_ready.1 hj
      have hnot : ∀ e ∈ oj.after, Region.binds md e = true → e.on ≠ i := fun e he hb heq => by
        have h1 := hall e he hb
        have h0 := (mem_ready.1 hr).1
        rw [heq] at h1
        rcases Nat.lt_or_ge i listed.size with h' | h'
        · simp [h'] at h0 h1; rw [h0] at h1; cases h1
        · simp [Array.getElem?_eq_none h'] at h1
      have h2 := cOp_put2 hoj (hfree j oj hoj hji hjun hnot) (fun cs b => hsel i oi cs b hi) (fun cs b => hsel j oj cs b hoj) hy h1
      have hfree' : ∀ k ok, ops[k]? = some ok → k ≠ i → (listed.setIfInBounds j true).getD k true = false →
          (∀ e ∈ ok.after, Region.binds md e = true → e.on ≠ i) → oi.apart ops ok = true := fun k ok hk hki hun hno => by
        refine hfree k ok hk hki ?_ hno
        by_cases hjk : j = k
        · subst hjk; exact hjun
        · rw [getD_set_ne true hjk] at hun; exact hun
      refine cOp_mono (C := fun w' => Keeps Gs bad j w w') (Keeps.refl _ _ _ _) (fun a' w' hCl h3 => ih (listed.setIfInBounds j true) a' w' (hCl g (hX j oj hoj hnot) hG) hfree' (ready_mono hr (Ne.symm hji)) h3.1 ?_) h2
      rw [Array.setIfInBounds_comm _ _ hji]
      exact h3.2
/-- The second part: one after the other. -/
def plan2OK (md : Region.Mode) (ops : Array Oper) : Array Bool → List Nat → Bool
  | listed, [] => (Region.ready md ops listed).isEmpty
  | listed, k :: rest => (Region.ready md ops listed == [k]) && plan2OK md ops (listed.setIfInBounds k true) rest
def wpTail (P : Program) (l : List Oper) (Gs : List (World → Prop)) (bad : List (Nat × Nat)) (Q : Act → World → Prop) : List Nat → Act → World → Prop
  | [], a, w => Q a w
  | k :: rest, a, w => ∃ o, nthO l k = some o ∧ if Region.wanted o (yielded l.toArray a.tmps) then Calm P o a w (fun v w' => Keeps Gs bad k w w' ∧ wpTail P l Gs bad Q rest (a.put o.dst v) w') else wpTail P l Gs bad Q rest (a.put o.dst undef) w
theorem wpAnyX_of_tail {Gs : List (World → Prop)} {bad : List (Nat × Nat)} {Q : Act → World → Prop} : ∀ (plan : List Nat) (listed : Array Bool) (a : Act) (w : World),
    plan2OK md l.toArray listed plan = true → wpTail P l Gs bad Q plan a w → wpAnyX P md l.toArray Gs bad Q plan.length listed a w
  | [], listed, a, w, hp, h => by
    simp only [plan2OK, List.isEmpty_iff] at hp
    exact ⟨hp, h⟩
  | k :: rest, listed, a, w, hp, h => by
    simp only [plan2OK, Bool.and_eq_true, beq_iff_eq] at hp
    obtain ⟨o, h0, h1⟩ := h
    refine ⟨fun h3 => (by rw [h3] at hp; cases hp.1), fun i hi => ?_⟩
    rw [hp.1] at hi
    obtain rfl : i = k := by simpa using hi
    unfold cOp
    rw [show l.toArray[i]? = some o by rw [← nthO_eq] at h0; simpa using h0]
    simp only
    split
    · rename_i hw
      simp only [hw, if_true] at h1
      exact h1.mono fun v w' ⟨c1, c2⟩ => ⟨c1, wpAnyX_of_tail rest _ _ _ hp.2 c2⟩
    · rename_i hw
      simp only [hw] at h1
      exact wpAnyX_of_tail rest _ _ _ hp.2 h1
/-- What lays a block. -/
def Lays (P : Program) (l : List Oper) (ob : Nat → Obj) (j : Nat) : Prop :=
  ∃ o, nthO l j = some o ∧ o.guard = none ∧ ∀ ρ w, (execOp ρ o).run P w = .ok (.value (ptr w.heap.size)) (w.alloc (ob j))
/-- The first part, walked in every world behind; the blocks laid at the end. -/
def wpFl (P : Program) (l : List Oper) (C : World → Prop) (Gs : List (World → Prop)) (CL : List Nat) (ob : Nat → Obj) (F0 : List Nat) (B : Nat) (Q : Act → World → Prop) : List (Nat × Bool) → Act → World → Prop
  | [], a, w => ∀ w' (pt : Nat → Nat), Below w.heap.size w w' → C w' → (∀ j ∈ F0, B ≤ pt j ∧ w'.heap[pt j]? = some (ob j)) → (∀ i ∈ F0, ∀ j ∈ F0, i ≠ j → pt i ≠ pt j) → Q (putF l (fun j => some (pt j)) F0 a) w'
  | (i, false) :: rest, a, w => ∃ o v, nthO l i = some o ∧ Stable P l.toArray (nthG Gs (CL.getD i 99)) o v a ∧ wpFl P l C Gs CL ob F0 B Q rest (a.put o.dst v) w
  | (k, true) :: rest, a, w => ∃ o, nthO l k = some o ∧ if Region.wanted o (yielded l.toArray a.tmps) then
      ∀ w', Below w.heap.size w w' → C w' → Calm P o a w' (fun v w'' => Below w'.heap.size w' w'' ∧ C w'' ∧ wpFl P l C Gs CL ob F0 B Q rest (a.put o.dst v) w'') else wpFl P l C Gs CL ob F0 B Q rest (a.put o.dst undef) w
def flOK (md : Region.Mode) (l : List Oper) (plan2 : List Nat) : Nat → Array Bool → List (Nat × Bool) → List Nat → Bool
  | 0, listed, plan, F => plan.isEmpty && F.isEmpty && plan2OK md l.toArray listed plan2
  | n + 1, listed, [], F => !(Region.ready md l.toArray listed).isEmpty && (Region.ready md l.toArray listed).all (F.contains ·) && F.all fun j => !(Region.ready md l.toArray listed).contains j || flOK md l plan2 n (listed.setIfInBounds j true) [] (F.erase j)
  | n + 1, listed, (i, false) :: rest, F => Region.free md l.toArray listed i && (Region.ready md l.toArray listed).contains i && flOK md l plan2 n (listed.setIfInBounds i true) rest F
  | n + 1, listed, (k, true) :: rest, F => !(Region.ready md l.toArray listed).isEmpty && (Region.ready md l.toArray listed).all (fun i => i == k || F.contains i) && flOK md l plan2 n (listed.setIfInBounds k true) rest F &&
      F.all fun j => !(Region.ready md l.toArray listed).contains j || flOK md l plan2 n (listed.setIfInBounds j true) ((k, true) :: rest) (F.erase j)
def planApart (l : List Oper) (F0 : List Nat) (plan : List (Nat × Bool)) : Bool := plan.all fun (i, _) => match nthO l i with | some o => apartF l o F0 | none => true
/-- What the second part does waits for every read of the first. -/
def waits (md : Region.Mode) (l : List Oper) (CL : List Nat) (bad : List (Nat × Nat)) (plan : List (Nat × Bool)) : Bool :=
  plan.all fun (i, c) => c || bad.all fun (k, g) => g != CL.getD i 99 || match nthO l k with | some o => o.after.any fun e => Region.binds md e && e.on == i | none => true
/-- The first part's operations, and those that float, keep all. -/
def notBad (bad : List (Nat × Nat)) (plan : List (Nat × Bool)) (F0 : List Nat) : Bool := bad.all fun (k, _) => plan.all (fun (i, _) => i != k) && !F0.contains k
theorem wpAnyC_of_fl {Gs : List (World → Prop)} {CL : List Nat} {bad : List (Nat × Nat)} {Q : Act → World → Prop} {ob : Nat → Obj} {F0 : List Nat} {B : Nat} {plan2 : List Nat} (hns : Region.noSelect l.toArray = true) (hsu : sundry l F0 = true)
    (hl : ∀ j ∈ F0, Lays P l ob j) (hCa : ∀ w o, C w → C (w.alloc o)) (hCG : ∀ w, C w → ∀ G ∈ Gs, G w) (_hF : ∀ j ∈ F0, ∀ g, bad.contains (j, g) = false) :
    ∀ (n : Nat) (plan : List (Nat × Bool)) (F : List Nat) (listed : Array Bool) (pt : Nat → Option Nat) (a : Act) (w w' : World), flOK md l plan2 n listed plan F = true → planApart l F0 plan = true → waits md l CL bad plan = true → (∀ k ∈ plan, ∀ g, bad.contains (k.1, g) = false) → F.Nodup →
      (∀ j ∈ F, j ∈ F0) → (∀ j ∈ F0, pt j = none ↔ j ∈ F) → (∀ j ∈ F0, ∀ p, pt j = some p → B ≤ p ∧ p < w'.heap.size ∧ w'.heap[p]? = some (ob j)) → (∀ i ∈ F0, ∀ j ∈ F0, ∀ p, pt i = some p → pt j = some p → i = j) →
      B ≤ w'.heap.size → Below w.heap.size w w' → C w' → wpFl P l C Gs CL ob F0 B (wpTail P l Gs bad Q plan2) plan a w → wpAnyX P md l.toArray Gs bad Q (n + plan2.length) listed (putF l pt F0 a) w' := by
  have hsel := fun (j : Nat) (o : Oper) cs b (h : nthO l j = some o) => Region.noSelect_spec hns j o cs b (by rw [← nthO_eq] at h; simpa using h)
  -- a block is laid
  have hfl : ∀ (n : Nat) (plan : List (Nat × Bool)) (F : List Nat) (listed : Array Bool) (pt : Nat → Option Nat) (a : Act) (w w' : World),
      (∀ (F : List Nat) (listed : Array Bool) (pt : Nat → Option Nat) (w' : World), flOK md l plan2 n listed plan F = true → F.Nodup →
        (∀ j ∈ F, j ∈ F0) → (∀ j ∈ F0, pt j = none ↔ j ∈ F) → (∀ j ∈ F0, ∀ p, pt j = some p → B ≤ p ∧ p < w'.heap.size ∧ w'.heap[p]? = some (ob j)) → (∀ i ∈ F0, ∀ j ∈ F0, ∀ p, pt i = some p → pt j = some p → i = j) →
        B ≤ w'.heap.size → Below w.heap.size w w' → C w' → wpAnyX P md l.toArray Gs bad Q (n + plan2.length) listed (putF l pt F0 a) w') →
      ∀ j ∈ F, flOK md l plan2 n (listed.setIfInBounds j true) plan (F.erase j) = true → F.Nodup →
      (∀ j ∈ F, j ∈ F0) → (∀ j ∈ F0, pt j = none ↔ j ∈ F) → (∀ j ∈ F0, ∀ p, pt j = some p → B ≤ p ∧ p < w'.heap.size ∧ w'.heap[p]? = some (ob j)) → (∀ i ∈ F0, ∀ j ∈ F0, ∀ p, pt i = some p → pt j = some p → i = j) →
      B ≤ w'.heap.size → Below w.heap.size w w' → C w' → cOp P l.toArray (fun w2 => Keeps Gs bad j w' w2) j (wpAnyX P md l.toArray Gs bad Q (n + plan2.length) (listed.setIfInBounds j true)) (putF l pt F0 a) w' := by
    intro n plan F listed pt a w w' ih j hj hok hnd hF' hnone hpt hinj hB hb hC
    obtain ⟨o, ho, hg, hrun⟩ := hl j (hF' j hj)
    unfold cOp
    rw [show l.toArray[j]? = some o by rw [← nthO_eq] at ho; simpa using ho]
    have hw : Region.wanted o (yielded l.toArray (putF l pt F0 a).tmps) = true := by unfold Region.wanted; rw [hg]
    simp only [hw, if_true]
    unfold Calm
    rw [hrun]
    refine ⟨fun g _ _ => nthG_all (hCG _ (hCa _ _ hC)) g, ?_⟩
    rw [putF_set ho ((hnone j (hF' j hj)).2 hj) (hF' j hj) hsu]
    have hsz : (w'.alloc (ob j)).heap.size = w'.heap.size + 1 := by simp
    have hold : ∀ p, p < w'.heap.size → (w'.alloc (ob j)).heap[p]? = w'.heap[p]? := fun p hp => Below.heap_alloc _ _ _ hp
    have hnew : (w'.alloc (ob j)).heap[w'.heap.size]? = some (ob j) := by
      show (w'.heap.push _)[w'.heap.size]? = _
      simp
    refine ih (F.erase j) _ _ _ hok (hnd.erase _) (fun i hi => hF' i (List.mem_of_mem_erase hi)) ?_ ?_ ?_ (by omega) (hb.alloc hb.size _) (hCa _ _ hC)
    · intro i hi
      unfold setP
      split
      · rename_i e; subst e; simp [hnd.mem_erase_iff]
      · rename_i e; rw [hnone i hi, hnd.mem_erase_iff]; simp [e]
    · intro i hi p hp
      unfold setP at hp
      split at hp
      · rename_i e
        subst e
        obtain rfl : w'.heap.size = p := by simpa using hp
        exact ⟨hB, by omega, hnew⟩
      · obtain ⟨h1, h2, h3⟩ := hpt i hi p hp
        exact ⟨h1, by omega, by rw [hold p h2]; exact h3⟩
    · intro i hi k hk p hp hq
      unfold setP at hp hq
      split at hp <;> split at hq
      · rename_i e1 e2; rw [e1, e2]
      · have h1 : w'.heap.size = p := by simpa using hp
        have h2 := (hpt k hk p hq).2.1
        omega
      · have h1 : w'.heap.size = p := by simpa using hq
        have h2 := (hpt i hi p hp).2.1
        omega
      · exact hinj i hi k hk p hp hq
  intro n
  induction n with
  | zero =>
    intro plan F listed pt a w w' hok hpa hwt hnb hnd hF' hnone hpt hinj hB hb hC h
    simp only [flOK, Bool.and_eq_true, List.isEmpty_iff] at hok
    obtain ⟨⟨rfl, rfl⟩, hp2⟩ := hok
    have hall : ∀ j ∈ F0, ∃ p, pt j = some p := fun j hj => by
      cases hp : pt j with
      | none => exact absurd ((hnone j hj).1 hp) (by simp)
      | some p => exact ⟨p, rfl⟩
    have hget : ∀ j ∈ F0, pt j = some ((pt j).getD 0) := fun j hj => by obtain ⟨p, hp⟩ := hall j hj; rw [hp]; rfl
    have h2 := h w' (fun j => (pt j).getD 0) hb hC (fun j hj => by
      obtain ⟨p, hp⟩ := hall j hj
      have := hpt j hj p hp
      rw [hp]
      exact ⟨this.1, this.2.2⟩) (fun i hi j hj hne he => hne (by
      obtain ⟨p, hp⟩ := hall i hi
      obtain ⟨q, hq⟩ := hall j hj
      rw [hp, hq] at he
      obtain rfl : p = q := by simpa using he
      exact hinj i hi j hj p hp hq))
    rw [putF_congr (pt' := fun j => some ((pt j).getD 0)) hget, Nat.zero_add]
    exact wpAnyX_of_tail _ _ _ _ hp2 h2
  | succ n ih =>
    intro plan F listed pt a w w' hok hpa hwt hnb hnd hF' hnone hpt hinj hB hb hC h
    rw [show n + 1 + plan2.length = (n + plan2.length) + 1 by omega]
    match plan, hok, hpa, hwt, hnb, h with
    | [], hok, hpa, hwt, hnb, h =>
      simp only [flOK, Bool.and_eq_true, List.all_eq_true, Bool.or_eq_true, Bool.not_eq_true', List.contains_eq_mem, decide_eq_true_eq, decide_eq_false_iff_not] at hok
      obtain ⟨⟨hne, hin⟩, hall⟩ := hok
      refine ⟨fun h0 => (by rw [h0] at hne; simp at hne), fun j hj => ?_⟩
      refine hfl n [] F listed pt a w w' (fun F' listed' pt' w2 h1 h2 h3 h4 h5 h6 h7 h8 h9 => ih [] F' listed' pt' a w w2 h1 hpa hwt hnb h2 h3 h4 h5 h6 h7 h8 h9 h) j (hin j hj) ?_ hnd hF' hnone hpt hinj hB hb hC
      rcases hall j (hin j hj) with h1 | h1
      · exact absurd hj h1
      · exact h1
    | (i, false) :: rest, hok, hpa, hwt, hnb, h =>
      simp only [flOK, Bool.and_eq_true, List.contains_eq_mem, decide_eq_true_eq] at hok
      obtain ⟨⟨hfr, hrd⟩, hok⟩ := hok
      obtain ⟨o, v, ho, hst, h1⟩ := h
      simp only [planApart, List.all_cons, Bool.and_eq_true] at hpa
      rw [ho] at hpa
      have ho' : l.toArray[i]? = some o := by have := ho; rw [← nthO_eq] at this; simpa using this
      rw [waits, List.all_cons, Bool.and_eq_true] at hwt
      obtain ⟨hwt1, hwt⟩ := hwt
      have hgo := fun h1 => ih rest F (listed.setIfInBounds i true) pt (a.put o.dst v) w w' hok hpa.2 hwt (fun k hk => hnb k (List.mem_cons_of_mem _ hk)) hnd hF' hnone hpt hinj hB hb hC h1
      rw [putF_put hpa.1] at hgo
      have hst' := hst.of_same (a' := putF l pt F0 a) (putF_exec (fun cs b => hsel i o cs b ho) hpa.1) (putF_wanted hpa.1)
      refine wpAnyX_first ho' (Region.noSelect_spec hns) (fun k ok hok hne => ?_) _ _ _ _ (nthG_all (hCG _ hC) _) (Region.free_spec ho' hfr) hrd hst' (hgo h1)
      cases hk : bad.contains (k, CL.getD i 99) with
      | false => rfl
      | true =>
        exfalso
        simp only [Bool.false_or] at hwt1
        have h5 := List.all_eq_true.1 hwt1 (k, CL.getD i 99) (by simpa using hk)
        simp only [bne_self_eq_false, Bool.false_or] at h5
        rw [show nthO l k = some ok by rw [← nthO_eq]; simpa using hok] at h5
        obtain ⟨e, he, h6⟩ := Array.any_eq_true'.1 h5
        simp only [Bool.and_eq_true, beq_iff_eq] at h6
        exact hne e he h6.1 h6.2
    | (k, true) :: rest, hok, hpa, hwt, hnb, h =>
      have hpa0 := hpa
      have hwt0 := hwt
      simp only [waits, List.all_cons, Bool.true_or, Bool.true_and] at hwt
      have h0 := h
      simp only [flOK, Bool.and_eq_true, List.all_eq_true, Bool.or_eq_true, Bool.not_eq_true', List.contains_eq_mem, decide_eq_true_eq, decide_eq_false_iff_not, beq_iff_eq] at hok
      obtain ⟨⟨⟨hne, hin⟩, hokk⟩, hall⟩ := hok
      obtain ⟨o, ho, h1⟩ := h
      simp only [planApart, List.all_cons, Bool.and_eq_true] at hpa
      rw [ho] at hpa
      have ho' : l.toArray[k]? = some o := by have := ho; rw [← nthO_eq] at this; simpa using this
      refine ⟨fun h0 => (by rw [h0] at hne; simp at hne), fun j hj => ?_⟩
      by_cases hjk : j = k
      · subst hjk
        unfold cOp
        rw [ho']
        simp only
        rw [putF_wanted hpa.1]
        split
        · rename_i hw
          simp only [hw, if_true] at h1
          have h2 := h1 w' hb hC
          unfold Calm at h2 ⊢
          rw [putF_exec (fun cs b => hsel j o cs b ho) hpa.1]
          have h3 : Calm P o a w' (fun v w'' => Keeps Gs bad j w' w'' ∧ wpAnyX P md l.toArray Gs bad Q (n + plan2.length) (listed.setIfInBounds j true) ((putF l pt F0 a).put o.dst v) w'') := by
            refine (show Calm P o a w' _ from h2).mono ?_
            rintro v w'' ⟨hb2, hC2, h4⟩
            refine ⟨fun g _ _ => nthG_all (hCG _ hC2) g, ?_⟩
            rw [← putF_put hpa.1]
            exact ih rest F _ pt _ w'' w'' hokk hpa.2 hwt (fun k hk => hnb k (List.mem_cons_of_mem _ hk)) hnd hF' hnone (fun i hi p hp => by
              obtain ⟨e1, e2, e3⟩ := hpt i hi p hp
              exact ⟨e1, Nat.lt_of_lt_of_le e2 hb2.size, by rw [hb2.block p e2]; exact e3⟩) hinj (Nat.le_trans hB hb2.size) (Below.refl _ _) hC2 h4
          exact h3
        · rename_i hw
          simp only [hw] at h1
          rw [← putF_put hpa.1]
          exact ih rest F _ pt _ w w' hokk hpa.2 hwt (fun k hk => hnb k (List.mem_cons_of_mem _ hk)) hnd hF' hnone hpt hinj hB hb hC h1
      · have hjF : j ∈ F := (hin j hj).resolve_left hjk
        refine hfl n ((k, true) :: rest) F listed pt a w w' (fun F' listed' pt' w2 h1 h2 h3 h4 h5 h6 h7 h8 h9 => ih ((k, true) :: rest) F' listed' pt' a w w2 h1 hpa0 hwt0 hnb h2 h3 h4 h5 h6 h7 h8 h9 h0) j hjF ?_ hnd hF' hnone hpt hinj hB hb hC
        rcases hall j hjF with h1 | h1
        · exact absurd hj h1
        · exact h1
theorem wpX_region_fl {Q : Act → World → Prop} {a : Act} {w : World} (plan1 : List (Nat × Bool)) (plan2 : List Nat) (F0 : List Nat) (ob : Nat → Obj) (CL : List Nat) (bad : List (Nat × Nat)) (C : World → Prop) (Gs : List (World → Prop)) (hs : Region.noSelect l.toArray = true)
    (hlen : plan1.length + F0.length + plan2.length = l.length) (hok : flOK .any l plan2 (plan1.length + F0.length) (Array.replicate l.length false) plan1 F0 = true) (hpa : planApart l F0 plan1 = true) (hwt : waits .any l CL bad plan1 = true) (hnb : notBad bad plan1 F0 = true) (hsu : sundry l F0 = true) (hnd : F0.Nodup)
    (hl : ∀ j ∈ F0, Lays P l ob j) (hCa : ∀ w o, C w → C (w.alloc o)) (hCG : ∀ w, C w → ∀ G ∈ Gs, G w) (hC : C w.drew) (h : wpFl P l C Gs CL ob F0 w.drew.heap.size (wpTail P l Gs bad Q plan2) plan1 a w.drew) : wpAnyX P .any l.toArray Gs bad Q l.toArray.size (Array.replicate l.toArray.size false) a w.drew := by
  have hF0 : ∀ {F : List Nat} {a : Act}, putF l (fun _ => none) F a = a := by
    intro F
    induction F with
    | nil => intro a; rfl
    | cons j F ih =>
      intro a
      unfold putF
      split
      · rename_i h; cases h
      · exact ih
  have hb1 : ∀ k ∈ plan1, ∀ g, bad.contains (k.1, g) = false := fun k hk g => by
    cases h : bad.contains (k.1, g) with
    | false => rfl
    | true =>
      have h2 := List.all_eq_true.1 hnb (k.1, g) (by simpa using h)
      simp only [Bool.and_eq_true] at h2
      have h3 := List.all_eq_true.1 h2.1 k hk
      simp at h3
  have hb2 : ∀ j ∈ F0, ∀ g, bad.contains (j, g) = false := fun j hj g => by
    cases h : bad.contains (j, g) with
    | false => rfl
    | true =>
      have h2 := List.all_eq_true.1 hnb (j, g) (by simpa using h)
      simp only [Bool.and_eq_true, Bool.not_eq_true', List.contains_eq_mem, decide_eq_false_iff_not] at h2
      exact absurd hj h2.2
  have h1 := wpAnyC_of_fl (md := .any) hs hsu hl hCa hCG hb2 (plan1.length + F0.length) plan1 F0 (Array.replicate l.length false) (fun _ => none) a w.drew w.drew hok hpa hwt hb1 hnd (fun j hj => hj) (fun j hj => by simp [hj]) (fun j hj p hp => by cases hp) (fun i hi j hj p hp => by cases hp)
    (Nat.le_refl _) (Below.refl _ _) hC h
  rw [hF0] at h1
  rw [hlen] at h1
  simpa using h1
theorem wp_region_fl {id : Nat} {Q : Exit → Act → World → Prop} {a : Act} {w : World} (plan1 : List (Nat × Bool)) (plan2 : List Nat) (F0 : List Nat) (ob : Nat → Obj) (CL : List Nat) (bad : List (Nat × Nat)) (C : World → Prop) (Gs : List (World → Prop)) (hm : P.follows .mixedOrders = true) (hs : Region.noSelect l.toArray = true)
    (hlen : plan1.length + F0.length + plan2.length = l.length) (hok : flOK .any l plan2 (plan1.length + F0.length) (Array.replicate l.length false) plan1 F0 = true) (hpa : planApart l F0 plan1 = true) (hwt : waits .any l CL bad plan1 = true) (hnb : notBad bad plan1 F0 = true) (hsu : sundry l F0 = true) (hnd : F0.Nodup)
    (hl : ∀ j ∈ F0, Lays P l ob j) (hCa : ∀ w o, C w → C (w.alloc o)) (hCG : ∀ w, C w → ∀ G ∈ Gs, G w) (hC : C w.drew) (h : wpFl P l C Gs CL ob F0 w.drew.heap.size (wpTail P l Gs bad (Q .normal) plan2) plan1 a w.drew) : (Code.region id l.toArray true).wp P Q a w :=
  (wpIn_wide (n := 0)).1 (show (Code.region id l.toArray true).wpIn (FW none) 0 P Q a w from wpIn_region_any hm (wpAnyIn_of_x (fun _ _ hq => hq) _ _ _ _ (wpX_region_fl plan1 plan2 F0 ob CL bad C Gs hs hlen hok hpa hwt hnb hsu hnd hl hCa hCG hC h)))
variable {Q : Act → World → Prop} {a : Act} {w : World} {rest : List (Nat × Bool)} {o : Oper} {ob : Nat → Obj} {F0 : List Nat} {B : Nat} {Gs : List (World → Prop)} {CL : List Nat} {bad : List (Nat × Nat)}
theorem wpFl_ld {i : Nat} {a' : Act} {G : World → Prop} (hG : nthG Gs (CL.getD i 99) = G) (hi : nthO l i = some o) (h1 : ∀ w', G w' → ∀ K : Act → World → Prop, K a' w' → o.wp P a w' K bot)
    (hw : Region.wanted o (yielded l.toArray a.tmps) = true) (hv : isV o = true) (hb : inB o.dst a = true) (hp : a.put o.dst (slotOf o.dst a') = a')
    (hn : wpFl P l C Gs CL ob F0 B Q rest a' w) : wpFl P l C Gs CL ob F0 B Q ((i, false) :: rest) a w := by
  subst hG
  refine ⟨o, slotOf o.dst a', hi, .inl ⟨hw, fun w' hC => ?_⟩, by rw [hp]; exact hn⟩
  have h := h1 w' hC (fun a2 w2 => a2 = a' ∧ w2 = w') ⟨rfl, rfl⟩
  unfold Oper.wp at h
  have hr := fun n w2 => isV_run (P := P) (ρ := a.eval) (n := n) (w := w') (w' := w2) hv
  generalize (execOp a.eval o).run P w' = r at *
  cases r with
  | ok n w2 =>
    obtain ⟨v, rfl⟩ := hr n w2 rfl
    simp only [Oper.upon] at h
    obtain ⟨h2, rfl⟩ := h
    rw [← h2, slotOf_put hb]
  | halt x w2 => cases x <;> simp only [Oper.upon, bot] at h
/-- A call, in whatever world behind. -/
theorem wpFl_call {k : Nat} (hi : nthO l k = some o) (hw : Region.wanted o (yielded l.toArray a.tmps) = true)
    (h : ∀ w', Below w.heap.size w w' → C w' → ∀ K : Act → World → Prop, (∀ a' w'', a'.defers = a.defers → Below w'.heap.size w' w'' → C w'' → wpFl P l C Gs CL ob F0 B Q rest a' w'' → K a' w'') → o.wp P a w' K bot) :
    wpFl P l C Gs CL ob F0 B Q ((k, true) :: rest) a w := by
  refine ⟨o, hi, ?_⟩
  rw [if_pos hw]
  intro w' hb hC
  have h := h w' hb hC (fun a' w'' => a'.defers = a.defers ∧ Below w'.heap.size w' w'' ∧ C w'' ∧ wpFl P l C Gs CL ob F0 B Q rest a' w'') (fun a' w' h1 h2 h3 h4 => ⟨h1, h2, h3, h4⟩)
  unfold Oper.wp at h
  unfold Calm
  generalize (execOp a.eval o).run P w' = r at *
  cases r with
  | ok n w2 =>
    cases n <;> simp only [Oper.upon] at h ⊢
    case value => exact h.2
    case skip => exact h.2
    case defer =>
      have h1 := h.1
      unfold Act.put at h1
      split at h1 <;> simp at h1
    case enter =>
      refine h.mono fun e w'' he => ?_
      cases e with
      | returned v => exact ⟨v, rfl, he.2⟩
      | panicked c => exact he.elim
      | outgrown => obtain ⟨_, _, hf⟩ := he; exact hf.elim
    case row => exact Rows.mono h fun v w'' he => he.2
  | halt x w2 => cases x <;> simp only [Oper.upon, bot] at h
theorem wpTail_call {k : Nat} {rest : List Nat} (hi : nthO l k = some o) (hw : Region.wanted o (yielded l.toArray a.tmps) = true)
    (h : ∀ K : Act → World → Prop, (∀ a' w', a'.defers = a.defers → keepL bad k 0 Gs w' → wpTail P l Gs bad Q rest a' w' → K a' w') → o.wp P a w K bot) : wpTail P l Gs bad Q (k :: rest) a w := by
  refine ⟨o, hi, ?_⟩
  rw [if_pos hw]
  have h := h (fun a' w' => a'.defers = a.defers ∧ Keeps Gs bad k w w' ∧ wpTail P l Gs bad Q rest a' w') (fun a' w' h1 h2 h3 => ⟨h1, .of_l h2, h3⟩)
  unfold Oper.wp at h
  unfold Calm
  generalize (execOp a.eval o).run P w = r at *
  cases r with
  | ok n w2 =>
    cases n <;> simp only [Oper.upon] at h ⊢
    case value => exact h.2
    case skip => exact h.2
    case defer =>
      have h1 := h.1
      unfold Act.put at h1
      split at h1 <;> simp at h1
    case enter =>
      refine h.mono fun e w'' he => ?_
      cases e with
      | returned v => exact ⟨v, rfl, he.2⟩
      | panicked c => exact he.elim
      | outgrown => obtain ⟨_, _, hf⟩ := he; exact hf.elim
    case row => exact Rows.mono h fun v w'' he => he.2
  | halt x w2 => cases x <;> simp only [Oper.upon, bot] at h
theorem wpTail_end (h : Q a w) : wpTail P l Gs bad Q [] a w := h
theorem wpFl_end {a' : (Nat → Nat) → Act} (ha : ∀ pt : Nat → Nat, putF l (fun j => some (pt j)) F0 a = a' pt)
    (h : ∀ w' (pt : Nat → Nat), Below w.heap.size w w' → C w' → (∀ j ∈ F0, B ≤ pt j ∧ w'.heap[pt j]? = some (ob j)) → (∀ i ∈ F0, ∀ j ∈ F0, i ≠ j → pt i ≠ pt j) → Q (a' pt) w') : wpFl P l C Gs CL ob F0 B Q [] a w := by
  intro w' pt h1 h2 h3 h4
  rw [ha pt]
  exact h w' pt h1 h2 h3 h4
end
end Go.Proofs.YtlomgfgedkkhkaaGreatDoor
