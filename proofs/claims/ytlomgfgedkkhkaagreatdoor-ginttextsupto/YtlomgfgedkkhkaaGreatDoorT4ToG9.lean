/- Texts of whole numbers, read back. -/
import Derived.Test.YtlomgfgedkkhkaaGreatDoorT1ToG24
namespace Go.Proofs.YtlomgfgedkkhkaaGreatDoor
open Go Go.RowKit Dig Lib
set_option linter.unusedVariables false
theorem b8_nat (d : Nat) (h : d < 10) : (UInt8.ofNat (48 + d)).toNat = 48 + d := by
  rw [UInt8.toNat_ofNat']
  omega
theorem isD_b8 (d : Nat) (h : d < 10) : isD (UInt8.ofNat (48 + d)) = true := by
  unfold isD
  rw [b8_nat d h]
  exact decide_eq_true (by omega)
theorem dec_one (d : Nat) (h : d < 10) : decDigits d = [UInt8.ofNat (48 + d)] := by
  rw [decDigits, dif_pos h]
theorem dec_more (n : Nat) (h : ¬ n < 10) : decDigits n = decDigits (n / 10) ++ [UInt8.ofNat (48 + n % 10)] := by
  rw [decDigits, dif_neg h]
theorem dec_facts (n : Nat) : (decDigits n).all isD = true ∧ pval (decDigits n) = n ∧ 0 < (decDigits n).length ∧ (0 < n → ∃ c, (decDigits n)[0]? = some c ∧ 48 < c.toNat) := by
  induction n using Nat.strongRecOn with
  | ind n ih =>
    by_cases h : n < 10
    · rw [dec_one n h]
      refine ⟨by rw [List.all_cons, isD_b8 n h]; rfl, ?_, by simp, fun hp => ⟨_, rfl, by rw [b8_nat n h]; omega⟩⟩
      simp only [pval, List.foldl_cons, List.foldl_nil, b8_nat n h]
      omega
    · rw [dec_more n h]
      obtain ⟨h1, h2, h3, h4⟩ := ih (n / 10) (by omega)
      refine ⟨by rw [List.all_append, h1, List.all_cons, isD_b8 (n % 10) (by omega)]; rfl, ?_, by simp, fun _ => ?_⟩
      · rw [pval_snoc, h2, b8_nat _ (by omega)]; omega
      · obtain ⟨c, hc, hk⟩ := h4 (by omega)
        exact ⟨c, by rw [List.getElem?_append_left h3]; exact hc, hk⟩
/-- A whole number's text, as a list. -/
def zlist (z : Int) : List UInt8 := if z < 0 then (45 : UInt8) :: decDigits z.natAbs else decDigits z.natAbs
theorem ext_one {s : ByteArray} {c : UInt8} {l : List UInt8} (hs : s.data.toList = c :: l) : (s.extract 1 s.size).data.toList = l := by
  rw [extract_data, hs, size_eq, hs]
  simp
def ofL (l : List UInt8) : ByteArray := ⟨l.toArray⟩
theorem ofL_list (l : List UInt8) : (ofL l).data.toList = l := by simp [ofL]
theorem ext_l {a b : ByteArray} (h : a.data.toList = b.data.toList) : a = b := by
  cases a; cases b
  simp only at h
  rw [Array.toList_inj.1 h]
theorem eq_ofL {a : ByteArray} {l : List UInt8} (h : a.data.toList = l) : a = ofL l := ext_l (by rw [ofL_list, h])
theorem ofL_size (l : List UInt8) : (ofL l).size = l.length := by rw [Lib.size_eq, ofL_list]
theorem ofL_app (a b : List UInt8) : ofL a ++ ofL b = ofL (a ++ b) := by
  refine ext_l ?_
  rw [ofL_list, ByteArray.data_append, Array.toList_append, ofL_list, ofL_list]
theorem tens_isD : ∀ c : UInt8, tens.contains c = isD c := by
  have key : ∀ n : Fin 256, tens.contains (UInt8.ofNat n.val) = isD (UInt8.ofNat n.val) := by decide +kernel
  intro c
  have := key ⟨c.toNat, c.toNat_lt⟩
  simpa using this
/-- What stands behind the digits. -/
theorem undig_app {d r : List UInt8} (hd : d.all isD = true) (hr : ∀ c, r.head? = some c → isD c = false) : undig (d ++ r) = r := by
  unfold undig Lib.trimLeftS
  rw [List.dropWhile_append_of_pos (fun c hc => by rw [tens_isD]; exact List.all_eq_true.1 hd c hc)]
  cases r with
  | nil => rfl
  | cons c r => rw [List.dropWhile_cons, tens_isD, hr c rfl]; simp
theorem unR_app {T : ByteArray} {d r : List UInt8} (hT : T.data.toList = d ++ r) (hd : d.all isD = true) (hr : ∀ c, r.head? = some c → isD c = false) : unR T = ofL r := by
  unfold unR
  rw [hT, undig_app hd hr]
  rfl
theorem unD_app {T : ByteArray} {d r : List UInt8} (hT : T.data.toList = d ++ r) (hd : d.all isD = true) (hr : ∀ c, r.head? = some c → isD c = false) : unD T = ofL d := by
  unfold unD
  rw [unR_app hT hd hr]
  refine ext_l ?_
  rw [Lib.extract_data, hT, ofL_list, ofL_size, Lib.size_eq, hT]
  simp
theorem ofL_toList (l : List UInt8) : (ofL l).toList = l := by rw [ByteArray.toList_eq, ofL_list]
theorem plusB_list {s : ByteArray} {l : List UInt8} (hs : s.data.toList = l) : plusB s = (l.head? == some 43) := by
  unfold plusB
  rw [Lib.extract_toList, Lib.size_eq, hs]
  cases l with
  | nil => rfl
  | cons c t => simp
theorem minusB_list {s : ByteArray} {l : List UInt8} (hs : s.data.toList = l) : minusB s = (l.head? == some 45) := by
  unfold minusB
  rw [Lib.extract_toList, Lib.size_eq, hs]
  cases l with
  | nil => rfl
  | cons c t => simp
theorem ext_zero {s : ByteArray} {c : UInt8} {l : List UInt8} (hs : s.data.toList = c :: l) : s.extract 0 1 = ofL [c] := by
  refine eq_ofL ?_
  rw [Lib.extract_data, hs]
  rfl
/-- What cutPart tells of a sign, digits and what stands behind. -/
theorem cutIs_of {s : ByteArray} {sg d r : List UInt8} (hs : s.size ≤ 65536) (h : s.data.toList = sg ++ (d ++ r)) (hsg : (sg = [] ∧ ∀ c, (d ++ r).head? = some c → c ≠ 43 ∧ c ≠ 45) ∨ sg = [43] ∨ sg = [45])
    (hd : d.all isD = true) (hr : ∀ c, r.head? = some c → isD c = false) : CutIs s (ofL sg) (ofL d) (ofL r) := by
  intro w
  rcases hsg with ⟨rfl, hh⟩ | rfl | rfl
  · rw [List.nil_append] at h
    have hp : plusB s = false := by
      rw [plusB_list h]
      cases hc : (d ++ r).head? with
      | none => rfl
      | some c => have := (hh c hc).1; simpa using this
    have hm : minusB s = false := by
      rw [minusB_list h]
      cases hc : (d ++ r).head? with
      | none => rfl
      | some c => have := (hh c hc).2; simpa using this
    have := cut_none s w hs hp hm
    rw [unR_app h hd hr, unD_app h hd hr] at this
    exact this
  · replace h : s.data.toList = 43 :: (d ++ r) := h
    have hp : plusB s = true := by rw [plusB_list h]; rfl
    have hT := ext_one h
    have := cut_plus s w hs hp
    rw [unR_app hT hd hr, unD_app hT hd hr, ext_zero h] at this
    exact this
  · replace h : s.data.toList = 45 :: (d ++ r) := h
    have hp : plusB s = false := by rw [plusB_list h]; rfl
    have hm : minusB s = true := by rw [minusB_list h]; rfl
    have hT := ext_one h
    have := cut_minus s w hs hp hm
    rw [unR_app hT hd hr, unD_app hT hd hr, ext_zero h] at this
    exact this
section
variable {s A D R A2 D2 R2 : ByteArray}
set_option maxHeartbeats 8000000 in
set_option maxRecDepth 20000 in
theorem parse_plus (w : World) (hsz : s.size ≤ 65536) (hc : CutIs s A D R) (hA : (A.toList == [43]) = true) :
    Calls Tryz.prog 20 #[.string s] w fun e w' => e = .returned (.tuple #[.agg #[.bool false, .slice none 0 0, .bool false, .slice none 0 0], .int .i64 7]) ∧ Below w.heap.size w w' := by
  have HC := hide hc
  have hsz' : (65536 < (s.size : Int)) = False := eq_false (by omega)
  clear hc
  go_enter Tryz.func20, Tryz.ntmps20
  have hs := St.nil w
  refine wp_seq_k ?_
  intro K1 hK1
  refine rg [0, 1] ?_
  refine sq ?_
  refine .al hs ?_; clear hs; intro p_b1 w_1 hs n1 kb_b1
  refine sq ?_
  refine .mv ?_
  apply wpSq_end
  refine hK1 _ _ ?_
  refine wp_scope_k 9 ?_
  intro S hSr hSn hSg
  refine wp_seq_k ?_
  intro K2 hK2
  refine wp_seq_k ?_
  intro K3 hK3
  refine rg [0, 1, 2] ?_
  refine sq ?_
  refine .mv ?_
  refine sq ?_
  refine .r0 ?_
  refine sq ?_
  refine .r0 ?_
  apply wpSq_end
  refine hK3 _ _ ?_
  refine cf ?_
  refine wp_skip ?_
  refine hK2 _ _ ?_
  refine wp_seq_k ?_
  intro K4 hK4
  refine rg [0] ?_
  refine sq ?_
  refine .al hs ?_; clear hs; intro p_b2 w_2 hs n2 kb_b2
  apply wpSq_end
  refine hK4 _ _ ?_
  refine wp_seq_k ?_
  intro K5 hK5
  refine rg [0] ?_
  refine sq ?_
  refine .mv ?_
  apply wpSq_end
  refine hK5 _ _ ?_
  refine wp_seq_k ?_
  intro K6 hK6
  refine rg [0, 1, 2, 3, 4, 5, 6, 7, 8] ?_
  refine sq ?_
  refine .mv ?_
  refine sq ?_
  intro K hK
  go_big_op
  go_fit (HC.out _)
  rintro e w_3 ⟨rfl, hb_3⟩
  replace hs := hs.bl hb_3
  refine hK _ _ rfl trivial ?_
  clear hK K
  refine sq ?_
  refine .mv ?_
  refine sq ?_
  refine .r0 ?_
  refine sq ?_
  refine .r0 ?_
  refine sq ?_
  refine .r0 ?_
  refine sq ?_
  refine .mv ?_
  refine sq ?_
  refine .mv ?_
  refine sq ?_
  refine .mv ?_
  apply wpSq_end
  refine hK6 _ _ ?_
  refine wp_seq_k ?_
  intro K7 hK7
  refine wp_seq_k ?_
  intro K8 hK8
  refine rg [0, 1] ?_
  refine sq ?_
  refine .mv ?_
  refine sq ?_
  refine .r0 ?_
  apply wpSq_end
  refine hK8 _ _ ?_
  refine ct ?_
  refine wp_goto ?_
  refine hSg _ _ _ _ _ rfl ?_
  refine wp_seq_k ?_
  intro K9 hK9
  refine wp_skip ?_
  refine hK9 _ _ ?_
  refine wp_seq_k ?_
  intro K10 hK10
  refine rg [0, 1, 2] ?_
  refine sq ?_
  refine .r0 ?_
  refine sq ?_
  refine .s4 hs.g1 (fun _ => hs.u1 kb_b1) ?_; clear hs; intro w_4 hs hd4 ho4
  refine sq ?_
  refine .mv ?_
  apply wpSq_end
  refine hK10 _ _ ?_
  refine wp_ret ?_
  refine hSr _ _ _ ?_
  try dsimp only [Exit.then, Exit.inBlock]
  obtain ⟨r0_0, r0_1, r0_2, r0_3⟩ := hs.g1.f4
  refine bodyPost_ret (v := (.tuple #[(.agg #[.bool false, .slice none 0 0, .bool false, .slice none 0 0]), (.int .i64 7)])) (by simp [results, Tryz.results20, go_sem, r0_0, r0_1, r0_2, r0_3]) rfl ?_
  have hb := hs.b
  exact ⟨rfl, hb⟩
set_option maxHeartbeats 8000000 in
set_option maxRecDepth 20000 in
theorem parse_no1 (w : World) (hsz : s.size ≤ 65536) (hc : CutIs s A D R) (hA : (A.toList == [43]) = false) (hR : (R.toList == [105]) = false) (hz : zok (A ++ D) = false) (hAD : (A ++ D).size ≤ 65536) :
    Calls Tryz.prog 20 #[.string s] w fun e w' => e = .returned (.tuple #[.agg #[.bool false, .slice none 0 0, .bool false, .slice none 0 0], .int .i64 7]) ∧ Below w.heap.size w w' := by
  have HC := hide hc
  have HZ := hide (And.intro hz hAD)
  have hsz : A.size + D.size ≤ 65536 := by rw [← ByteArray.size_append]; exact hAD
  have hsz' : (65536 < (s.size : Int)) = False := eq_false (by omega)
  clear hc hz
  go_enter Tryz.func20, Tryz.ntmps20
  have hs := St.nil w
  refine wp_seq_k ?_
  intro K1 hK1
  refine rg [0, 1] ?_
  refine sq ?_
  refine .al hs ?_; clear hs; intro p_b1 w_1 hs n1 kb_b1
  refine sq ?_
  refine .mv ?_
  apply wpSq_end
  refine hK1 _ _ ?_
  refine wp_scope_k 9 ?_
  intro S hSr hSn hSg
  refine wp_seq_k ?_
  intro K2 hK2
  refine wp_seq_k ?_
  intro K3 hK3
  refine rg [0, 1, 2] ?_
  refine sq ?_
  refine .mv ?_
  refine sq ?_
  refine .r0 ?_
  refine sq ?_
  refine .r0 ?_
  apply wpSq_end
  refine hK3 _ _ ?_
  refine cf ?_
  refine wp_skip ?_
  refine hK2 _ _ ?_
  refine wp_seq_k ?_
  intro K4 hK4
  refine rg [0] ?_
  refine sq ?_
  refine .al hs ?_; clear hs; intro p_b2 w_2 hs n2 kb_b2
  apply wpSq_end
  refine hK4 _ _ ?_
  refine wp_seq_k ?_
  intro K5 hK5
  refine rg [0] ?_
  refine sq ?_
  refine .mv ?_
  apply wpSq_end
  refine hK5 _ _ ?_
  refine wp_seq_k ?_
  intro K6 hK6
  refine rg [0, 1, 2, 3, 4, 5, 6, 7, 8] ?_
  refine sq ?_
  refine .mv ?_
  refine sq ?_
  intro K hK
  go_big_op
  go_fit (HC.out _)
  rintro e w_3 ⟨rfl, hb_3⟩
  replace hs := hs.bl hb_3
  refine hK _ _ rfl trivial ?_
  clear hK K
  refine sq ?_
  refine .mv ?_
  refine sq ?_
  refine .r0 ?_
  refine sq ?_
  refine .r0 ?_
  refine sq ?_
  refine .r0 ?_
  refine sq ?_
  refine .mv ?_
  refine sq ?_
  refine .mv ?_
  refine sq ?_
  refine .mv ?_
  apply wpSq_end
  refine hK6 _ _ ?_
  refine wp_seq_k ?_
  intro K7 hK7
  refine wp_seq_k ?_
  intro K8 hK8
  refine rg [0, 1] ?_
  refine sq ?_
  refine .mv ?_
  refine sq ?_
  refine .r0 ?_
  apply wpSq_end
  refine hK8 _ _ ?_
  refine cf ?_
  refine wp_skip ?_
  refine hK7 _ _ ?_
  refine wp_seq_k ?_
  intro K9 hK9
  refine wp_seq_k ?_
  intro K10 hK10
  refine rg [0, 1] ?_
  refine sq ?_
  refine .mv ?_
  refine sq ?_
  refine .r0 ?_
  apply wpSq_end
  refine hK10 _ _ ?_
  refine cf ?_
  refine wp_skip ?_
  refine hK9 _ _ ?_
  refine wp_seq_k ?_
  intro K11 hK11
  refine rg [0, 1, 2, 3, 4, 5, 6, 7, 8, 9] ?_
  refine sq ?_
  refine .mv ?_
  refine sq ?_
  refine .mv ?_
  refine sq ?_
  refine .r0 ?_
  refine sq ?_
  intro K hK
  go_big_op
  go_fit (zparse_no (A ++ D) _ HZ.out.2 HZ.out.1)
  rintro e w_4 ⟨rfl, hb_4⟩
  replace hs := hs.bl hb_4
  refine hK _ _ rfl trivial ?_
  clear hK K
  refine sq ?_
  refine .mv ?_
  refine sq ?_
  refine .r0 ?_
  refine sq ?_
  refine .r0 ?_
  refine sq ?_
  refine .r0 ?_
  refine sq ?_
  intro K hK
  have xs := hs.g0
  obtain ⟨d0, d1, d2, d3⟩ := hs.g0.f4
  have f0 := xs.free 0; have f1 := xs.free 1
  go_big_op
  have hd5 := xs.nod rfl rfl
  obtain ⟨w_5, eW, xs', ho5⟩ : ∃ w', ((w_4.setCell ⟨p_b2, 0, none⟩ (.bool false)).setCell ⟨p_b2, 1, none⟩ (.slice none 0 0)) = w' ∧ Bs w' p_b2 #[.bool false, .slice none 0 0, .bool false, .slice none 0 0] 29 ∧ Only p_b2 w_4 w' := xs.setN [(0, .bool false), (1, .slice none 0 0)]
  rw [eW]; clear eW d0 d1 d2 d3 f0 f1 xs
  replace hs := hs.u0 kb_b2 xs' ho5; clear xs'
  refine hK _ _ rfl trivial ?_; clear hK K
  refine sq ?_
  refine .mv ?_
  apply wpSq_end
  refine hK11 _ _ ?_
  refine wp_seq_k ?_
  intro K12 hK12
  refine wp_seq_k ?_
  intro K13 hK13
  refine rg [0, 1] ?_
  refine sq ?_
  refine .mv ?_
  refine sq ?_
  refine .r0 ?_
  apply wpSq_end
  refine hK13 _ _ ?_
  refine ct ?_
  refine wp_goto ?_
  refine hSg _ _ _ _ _ rfl ?_
  refine wp_seq_k ?_
  intro K14 hK14
  refine wp_skip ?_
  refine hK14 _ _ ?_
  refine wp_seq_k ?_
  intro K15 hK15
  refine rg [0, 1, 2] ?_
  refine sq ?_
  refine .r0 ?_
  refine sq ?_
  refine .s4 hs.g1 (fun _ => hs.u1 kb_b1) ?_; clear hs; intro w_6 hs hd6 ho6
  refine sq ?_
  refine .mv ?_
  apply wpSq_end
  refine hK15 _ _ ?_
  refine wp_ret ?_
  refine hSr _ _ _ ?_
  try dsimp only [Exit.then, Exit.inBlock]
  obtain ⟨r0_0, r0_1, r0_2, r0_3⟩ := hs.g1.f4
  refine bodyPost_ret (v := (.tuple #[(.agg #[.bool false, .slice none 0 0, .bool false, .slice none 0 0]), (.int .i64 7)])) (by simp [results, Tryz.results20, go_sem, r0_0, r0_1, r0_2, r0_3]) rfl ?_
  have hb := hs.b
  exact ⟨rfl, hb⟩
set_option maxHeartbeats 8000000 in
set_option maxRecDepth 20000 in
theorem parse_no2 (w : World) (hsz : s.size ≤ 65536) (hc : CutIs s A D R) (hA : (A.toList == [43]) = false) (hR : (R.toList == [105]) = false) (hR0 : (R.toList == []) = false) (hz0 : zok (A ++ D) = true) (hAD : (A ++ D).size ≤ 65536) (hc2 : CutIs R A2 D2 R2) (hR2 : (R2.toList == [105]) = false) :
    Calls Tryz.prog 20 #[.string s] w fun e w' => e = .returned (.tuple #[.agg #[.bool false, .slice none 0 0, .bool false, .slice none 0 0], .int .i64 7]) ∧ Below w.heap.size w w' := by
  have HC := hide hc
  have hsz' : (65536 < (s.size : Int)) = False := eq_false (by omega)
  have HC2 := hide hc2
  have HZ0 := hide (And.intro hz0 hAD)
  have HL0 := hide (zvl_len hAD hz0)
  have hsz0 : A.size + D.size ≤ 65536 := by rw [← ByteArray.size_append]; exact hAD
  clear hz0 hc2 hc
  go_enter Tryz.func20, Tryz.ntmps20
  have hs := St.nil w
  refine wp_seq_k ?_
  intro K1 hK1
  refine rg [0, 1] ?_
  refine sq ?_
  refine .al hs ?_; clear hs; intro p_b1 w_1 hs n1 kb_b1
  refine sq ?_
  refine .mv ?_
  apply wpSq_end
  refine hK1 _ _ ?_
  refine wp_scope_k 9 ?_
  intro S hSr hSn hSg
  refine wp_seq_k ?_
  intro K2 hK2
  refine wp_seq_k ?_
  intro K3 hK3
  refine rg [0, 1, 2] ?_
  refine sq ?_
  refine .mv ?_
  refine sq ?_
  refine .r0 ?_
  refine sq ?_
  refine .r0 ?_
  apply wpSq_end
  refine hK3 _ _ ?_
  refine cf ?_
  refine wp_skip ?_
  refine hK2 _ _ ?_
  refine wp_seq_k ?_
  intro K4 hK4
  refine rg [0] ?_
  refine sq ?_
  refine .al hs ?_; clear hs; intro p_b2 w_2 hs n2 kb_b2
  apply wpSq_end
  refine hK4 _ _ ?_
  refine wp_seq_k ?_
  intro K5 hK5
  refine rg [0] ?_
  refine sq ?_
  refine .mv ?_
  apply wpSq_end
  refine hK5 _ _ ?_
  refine wp_seq_k ?_
  intro K6 hK6
  refine rg [0, 1, 2, 3, 4, 5, 6, 7, 8] ?_
  refine sq ?_
  refine .mv ?_
  refine sq ?_
  intro K hK
  go_big_op
  go_fit (HC.out _)
  rintro e w_3 ⟨rfl, hb_3⟩
  replace hs := hs.bl hb_3
  refine hK _ _ rfl trivial ?_
  clear hK K
  refine sq ?_
  refine .mv ?_
  refine sq ?_
  refine .r0 ?_
  refine sq ?_
  refine .r0 ?_
  refine sq ?_
  refine .r0 ?_
  refine sq ?_
  refine .mv ?_
  refine sq ?_
  refine .mv ?_
  refine sq ?_
  refine .mv ?_
  apply wpSq_end
  refine hK6 _ _ ?_
  refine wp_seq_k ?_
  intro K7 hK7
  refine wp_seq_k ?_
  intro K8 hK8
  refine rg [0, 1] ?_
  refine sq ?_
  refine .mv ?_
  refine sq ?_
  refine .r0 ?_
  apply wpSq_end
  refine hK8 _ _ ?_
  refine cf ?_
  refine wp_skip ?_
  refine hK7 _ _ ?_
  refine wp_seq_k ?_
  intro K9 hK9
  refine wp_seq_k ?_
  intro K10 hK10
  refine rg [0, 1] ?_
  refine sq ?_
  refine .mv ?_
  refine sq ?_
  refine .r0 ?_
  apply wpSq_end
  refine hK10 _ _ ?_
  refine cf ?_
  refine wp_skip ?_
  refine hK9 _ _ ?_
  refine wp_seq_k ?_
  intro K11 hK11
  refine rg [0, 1, 2, 3, 4, 5, 6, 7, 8, 9] ?_
  refine sq ?_
  refine .mv ?_
  refine sq ?_
  refine .mv ?_
  refine sq ?_
  refine .r0 ?_
  refine sq ?_
  intro K hK
  go_big_op
  go_fit (zparse_ok (A ++ D) _ HZ0.out.2 HZ0.out.1)
  rintro e w_4 ⟨v_r, rfl, r, hb_4⟩
  replace hs := hs.bl hb_4
  obtain ⟨n_r, o_r, k_r, c_r, rfl⟩ := r.open2
  have Lr := hide (r.lenOf (HL0.out))
  refine hK _ _ rfl trivial ?_
  clear hK K
  refine sq ?_
  refine .mv ?_
  refine sq ?_
  refine .r0 ?_
  refine sq ?_
  refine .r0 ?_
  refine sq ?_
  refine .r0 ?_
  refine sq ?_
  intro K hK
  have xs := hs.g0
  obtain ⟨d0, d1, d2, d3⟩ := hs.g0.f4
  have f0 := xs.free 0; have f1 := xs.free 1
  go_big_op
  have hd5 := xs.nod rfl rfl
  obtain ⟨w_5, eW, xs', ho5⟩ : ∃ w', ((w_4.setCell ⟨p_b2, 0, none⟩ (.bool n_r)).setCell ⟨p_b2, 1, none⟩ (.slice o_r k_r c_r)) = w' ∧ Bs w' p_b2 #[.bool n_r, .slice o_r k_r c_r, .bool false, .slice none 0 0] 29 ∧ Only p_b2 w_4 w' := xs.setN [(0, .bool n_r), (1, .slice o_r k_r c_r)]
  rw [eW]; clear eW d0 d1 d2 d3 f0 f1 xs
  replace hs := hs.u0 kb_b2 xs' ho5; clear xs'
  refine hK _ _ rfl trivial ?_; clear hK K
  refine sq ?_
  refine .mv ?_
  apply wpSq_end
  refine hK11 _ _ ?_
  refine wp_seq_k ?_
  intro K12 hK12
  refine wp_seq_k ?_
  intro K13 hK13
  refine rg [0, 1] ?_
  refine sq ?_
  refine .mv ?_
  refine sq ?_
  refine .r0 ?_
  apply wpSq_end
  refine hK13 _ _ ?_
  refine cf ?_
  refine wp_skip ?_
  refine hK12 _ _ ?_
  refine wp_seq_k ?_
  intro K14 hK14
  refine wp_seq_k ?_
  intro K15 hK15
  refine rg [0, 1] ?_
  refine sq ?_
  refine .mv ?_
  refine sq ?_
  refine .r0 ?_
  apply wpSq_end
  refine hK15 _ _ ?_
  refine cf ?_
  refine wp_skip ?_
  refine hK14 _ _ ?_
  refine wp_seq_k ?_
  intro K16 hK16
  refine rg [0, 1, 2, 3, 4, 5, 6, 7, 8] ?_
  refine sq ?_
  refine .mv ?_
  refine sq ?_
  intro K hK
  go_big_op
  go_fit (HC2.out _)
  rintro e w_6 ⟨rfl, hb_6⟩
  replace hs := hs.bl hb_6
  refine hK _ _ rfl trivial ?_
  clear hK K
  refine sq ?_
  refine .mv ?_
  refine sq ?_
  refine .r0 ?_
  refine sq ?_
  refine .r0 ?_
  refine sq ?_
  refine .r0 ?_
  refine sq ?_
  refine .mv ?_
  refine sq ?_
  refine .mv ?_
  refine sq ?_
  refine .mv ?_
  apply wpSq_end
  refine hK16 _ _ ?_
  refine wp_seq_k ?_
  intro K17 hK17
  refine wp_seq_k ?_
  intro K18 hK18
  refine rg [0, 1] ?_
  refine sq ?_
  refine .mv ?_
  refine sq ?_
  refine .r0 ?_
  apply wpSq_end
  refine hK18 _ _ ?_
  refine ct ?_
  refine wp_goto ?_
  refine hSg _ _ _ _ _ rfl ?_
  refine wp_seq_k ?_
  intro K19 hK19
  refine wp_skip ?_
  refine hK19 _ _ ?_
  refine wp_seq_k ?_
  intro K20 hK20
  refine rg [0, 1, 2] ?_
  refine sq ?_
  refine .r0 ?_
  refine sq ?_
  refine .s4 hs.g1 (fun _ => hs.u1 kb_b1) ?_; clear hs; intro w_7 hs hd7 ho7
  refine sq ?_
  refine .mv ?_
  apply wpSq_end
  refine hK20 _ _ ?_
  refine wp_ret ?_
  refine hSr _ _ _ ?_
  try dsimp only [Exit.then, Exit.inBlock]
  obtain ⟨r0_0, r0_1, r0_2, r0_3⟩ := hs.g1.f4
  refine bodyPost_ret (v := (.tuple #[(.agg #[.bool false, .slice none 0 0, .bool false, .slice none 0 0]), (.int .i64 7)])) (by simp [results, Tryz.results20, go_sem, r0_0, r0_1, r0_2, r0_3]) rfl ?_
  have hb := hs.b
  exact ⟨rfl, hb⟩
end
theorem ris_b (s : ByteArray) (w : World) (hs : s.size ≤ 65536) :
    Calls Tryz.prog 51 #[.string s] w fun e w' => e = .returned (.bool (zok s)) ∧ Below w.heap.size w w' :=
  Calls.mono (ris_any s w hs) fun e w' ⟨h1, h2⟩ => ⟨h1, by rw [h2]; exact Below.refl _ _⟩
theorem rSplit_b (s : ByteArray) (w : World) (hs : s.size ≤ 65536) (K : Nat) (hK : K = 0 ∨ ∃ h : K < s.size, 0 < K ∧ sgB (s[K]'h) = true) (hn : ∀ j, K < j → ∀ h : j < s.size, sgB (s[j]'h) = false) :
    Calls Tryz.prog 53 #[.string s] w fun e w' => e = .returned (.int .i64 (K : Int)) ∧ Below w.heap.size w w' :=
  Calls.mono (rSplit_any s w hs K hK hn) fun e w' ⟨h1, h2⟩ => ⟨h1, by rw [← h2]; exact Below.refl _ _⟩
section
variable {w : World} {s : ByteArray}
set_option maxHeartbeats 4000000 in
set_option maxRecDepth 20000 in
theorem rp_e (w : World) : Calls Tryz.prog 21 #[.string ⟨#[]⟩] w fun e w' => e = .returned (.tuple #[.agg #[.bool false, .slice none 0 0, .bool false, .slice none 0 0], .int .i64 7]) ∧ Below w.heap.size w w' := by
  have HZ := hide (show zok ⟨#[]⟩ = false from by decide +kernel)
  go_enter Tryz.func21, Tryz.ntmps21
  have hs := St.nil w
  refine wp_seq_k ?_
  intro K1 hK1
  refine rg [0, 1] ?_
  refine sq ?_
  refine .al hs ?_; clear hs; intro p_b1 w_1 hs n1 kb_b1
  refine sq ?_
  refine .mv ?_
  apply wpSq_end
  refine hK1 _ _ ?_
  refine wp_seq_k ?_
  intro K2 hK2
  refine wp_seq_k ?_
  intro K3 hK3
  refine rg [0, 1, 2] ?_
  refine sq ?_
  refine .mv ?_
  refine sq ?_
  refine .r0 ?_
  refine sq ?_
  refine .r0 ?_
  apply wpSq_end
  refine hK3 _ _ ?_
  refine cf ?_
  refine wp_skip ?_
  refine hK2 _ _ ?_
  refine wp_seq_k ?_
  intro K4 hK4
  refine wp_seq_k ?_
  intro K5 hK5
  refine rg [0, 1, 2, 3, 4, 5, 6, 7, 8, 9, 10] ?_
  refine sq ?_
  refine .mv ?_
  refine sq ?_
  refine .r0 ?_
  refine sq ?_
  refine .r0 ?_
  refine sq ?_
  refine .mv ?_
  refine sk ?_
  refine sk ?_
  refine sk ?_
  refine sk ?_
  refine sk ?_
  refine sk ?_
  refine sq ?_
  refine .r0 ?_
  apply wpSq_end
  refine hK5 _ _ ?_
  refine ct ?_
  refine wp_seq_k ?_
  intro K6 hK6
  refine wp_seq_k ?_
  intro K7 hK7
  refine rg [0, 1, 2] ?_
  refine sq ?_
  refine .mv ?_
  refine sq ?_
  intro K hK
  go_big_op
  go_fit (ris_b ⟨#[]⟩ _ (by decide))
  rintro e w_2 ⟨rfl, hb_2⟩
  replace hs := hs.bl hb_2
  rw [HZ.out]
  refine hK _ _ rfl trivial ?_
  clear hK K
  refine sq ?_
  refine .r0 ?_
  apply wpSq_end
  refine hK7 _ _ ?_
  refine ct ?_
  refine wp_seq_k ?_
  intro K8 hK8
  refine rg [0, 1, 2] ?_
  refine sq ?_
  refine .r0 ?_
  refine sq ?_
  refine .s4 hs.g0 (fun _ => hs.u0 kb_b1) ?_; clear hs; intro w_3 hs hd3 ho3
  refine sq ?_
  refine .mv ?_
  apply wpSq_end
  refine hK8 _ _ ?_
  refine wp_ret ?_
  try dsimp only [Exit.then, Exit.inBlock]
  obtain ⟨r0_0, r0_1, r0_2, r0_3⟩ := hs.g0.f4
  refine bodyPost_ret (v := (.tuple #[(.agg #[.bool false, .slice none 0 0, .bool false, .slice none 0 0]), (.int .i64 7)])) (by simp [results, Tryz.results21, go_sem, r0_0, r0_1, r0_2, r0_3]) rfl ?_
  have hb := hs.b
  exact ⟨rfl, hb⟩
set_option maxHeartbeats 4000000 in
set_option maxRecDepth 20000 in
theorem rp_no (w : World) (hsz : s.size ≤ 65536) {c : UInt8} (hp : 0 < s.size) (hc : s[s.size - 1]'(by omega) = c) (h105 : ((c.toNat : Int) != 105) = true) (hz : zok s = false) :
    Calls Tryz.prog 21 #[.string s] w fun e w' => e = .returned (.tuple #[.agg #[.bool false, .slice none 0 0, .bool false, .slice none 0 0], .int .i64 7]) ∧ Below w.heap.size w w' := by
  have HZ := hide hz
  have hw : wrap64 ((s.size : Int) - 1) = ((s.size - 1 : Nat) : Int) := by unfold wrap64; omega
  have hs0 : ((s.size : Int) == 0) = false := by simpa using (show s.size ≠ 0 by omega)
  have hs1 : (65536 < (s.size : Int)) = False := eq_false (by omega)
  clear hz
  go_enter Tryz.func21, Tryz.ntmps21
  have hs := St.nil w
  refine wp_seq_k ?_
  intro K1 hK1
  refine rg [0, 1] ?_
  refine sq ?_
  refine .al hs ?_; clear hs; intro p_b1 w_1 hs n1 kb_b1
  refine sq ?_
  refine .mv ?_
  apply wpSq_end
  refine hK1 _ _ ?_
  refine wp_seq_k ?_
  intro K2 hK2
  refine wp_seq_k ?_
  intro K3 hK3
  refine rg [0, 1, 2] ?_
  refine sq ?_
  refine .mv ?_
  refine sq ?_
  refine .r0 ?_
  refine sq ?_
  refine .r0 ?_
  apply wpSq_end
  refine hK3 _ _ ?_
  refine cf ?_
  refine wp_skip ?_
  refine hK2 _ _ ?_
  refine wp_seq_k ?_
  intro K4 hK4
  refine wp_seq_k ?_
  intro K5 hK5
  refine rg [0, 1, 2, 3, 4, 5, 6, 7, 8, 9, 10] ?_
  refine sq ?_
  refine .mv ?_
  refine sq ?_
  refine .r0 ?_
  refine sq ?_
  refine .r0 ?_
  refine sq ?_
  refine .mv ?_
  refine sq ?_
  refine .mv ?_
  refine sq ?_
  refine .mv ?_
  refine sq ?_
  refine .r0 ?_
  refine sq ?_
  refine .r0 ?_
  refine sq ?_
  refine .r0 ?_
  refine sq ?_
  refine .r0 ?_
  refine sq ?_
  refine .r0 ?_
  apply wpSq_end
  refine hK5 _ _ ?_
  refine ct ?_
  refine wp_seq_k ?_
  intro K6 hK6
  refine wp_seq_k ?_
  intro K7 hK7
  refine rg [0, 1, 2] ?_
  refine sq ?_
  refine .mv ?_
  refine sq ?_
  intro K hK
  go_big_op
  go_fit (ris_b s _ hsz)
  rintro e w_2 ⟨rfl, hb_2⟩
  replace hs := hs.bl hb_2
  rw [HZ.out]
  refine hK _ _ rfl trivial ?_
  clear hK K
  refine sq ?_
  refine .r0 ?_
  apply wpSq_end
  refine hK7 _ _ ?_
  refine ct ?_
  refine wp_seq_k ?_
  intro K8 hK8
  refine rg [0, 1, 2] ?_
  refine sq ?_
  refine .r0 ?_
  refine sq ?_
  refine .s4 hs.g0 (fun _ => hs.u0 kb_b1) ?_; clear hs; intro w_3 hs hd3 ho3
  refine sq ?_
  refine .mv ?_
  apply wpSq_end
  refine hK8 _ _ ?_
  refine wp_ret ?_
  try dsimp only [Exit.then, Exit.inBlock]
  obtain ⟨r0_0, r0_1, r0_2, r0_3⟩ := hs.g0.f4
  refine bodyPost_ret (v := (.tuple #[(.agg #[.bool false, .slice none 0 0, .bool false, .slice none 0 0]), (.int .i64 7)])) (by simp [results, Tryz.results21, go_sem, r0_0, r0_1, r0_2, r0_3]) rfl ?_
  have hb := hs.b
  exact ⟨rfl, hb⟩
set_option maxHeartbeats 4000000 in
set_option maxRecDepth 20000 in
theorem rp_yes (w : World) (hsz : s.size ≤ 65536) {c : UInt8} (hp : 0 < s.size) (hc : s[s.size - 1]'(by omega) = c) (h105 : ((c.toNat : Int) != 105) = true) (hz : zok s = true) :
    Calls Tryz.prog 21 #[.string s] w fun e w' => ∃ r, e = .returned (.tuple #[r, .int .i64 0]) ∧ PC w' r (zvl s) 0 ∧ Below w.heap.size w w' := by
  have HZ := hide hz
  have HL := hide (zvl_len hsz hz)
  have hw : wrap64 ((s.size : Int) - 1) = ((s.size - 1 : Nat) : Int) := by unfold wrap64; omega
  have hs0 : ((s.size : Int) == 0) = false := by simpa using (show s.size ≠ 0 by omega)
  have hs1 : (65536 < (s.size : Int)) = False := eq_false (by omega)
  clear hz
  go_enter Tryz.func21, Tryz.ntmps21
  have hs := St.nil w
  refine wp_seq_k ?_
  intro K1 hK1
  refine rg [0, 1] ?_
  refine sq ?_
  refine .al hs ?_; clear hs; intro p_b1 w_1 hs n1 kb_b1
  refine sq ?_
  refine .mv ?_
  apply wpSq_end
  refine hK1 _ _ ?_
  refine wp_seq_k ?_
  intro K2 hK2
  refine wp_seq_k ?_
  intro K3 hK3
  refine rg [0, 1, 2] ?_
  refine sq ?_
  refine .mv ?_
  refine sq ?_
  refine .r0 ?_
  refine sq ?_
  refine .r0 ?_
  apply wpSq_end
  refine hK3 _ _ ?_
  refine cf ?_
  refine wp_skip ?_
  refine hK2 _ _ ?_
  refine wp_seq_k ?_
  intro K4 hK4
  refine wp_seq_k ?_
  intro K5 hK5
  refine rg [0, 1, 2, 3, 4, 5, 6, 7, 8, 9, 10] ?_
  refine sq ?_
  refine .mv ?_
  refine sq ?_
  refine .r0 ?_
  refine sq ?_
  refine .r0 ?_
  refine sq ?_
  refine .mv ?_
  refine sq ?_
  refine .mv ?_
  refine sq ?_
  refine .mv ?_
  refine sq ?_
  refine .r0 ?_
  refine sq ?_
  refine .r0 ?_
  refine sq ?_
  refine .r0 ?_
  refine sq ?_
  refine .r0 ?_
  refine sq ?_
  refine .r0 ?_
  apply wpSq_end
  refine hK5 _ _ ?_
  refine ct ?_
  refine wp_seq_k ?_
  intro K6 hK6
  refine wp_seq_k ?_
  intro K7 hK7
  refine rg [0, 1, 2] ?_
  refine sq ?_
  refine .mv ?_
  refine sq ?_
  intro K hK
  go_big_op
  go_fit (ris_b s _ hsz)
  rintro e w_2 ⟨rfl, hb_2⟩
  replace hs := hs.bl hb_2
  rw [HZ.out]
  refine hK _ _ rfl trivial ?_
  clear hK K
  refine sq ?_
  refine .r0 ?_
  apply wpSq_end
  refine hK7 _ _ ?_
  refine cf ?_
  refine wp_skip ?_
  refine hK6 _ _ ?_
  refine wp_seq_k ?_
  intro K8 hK8
  refine rg [0, 1, 2, 3, 4, 5] ?_
  refine sq ?_
  refine .mv ?_
  refine sq ?_
  intro K hK
  go_big_op
  go_fit (rzparse_ok s _ hsz HZ.out)
  rintro e w_3 ⟨v_r, rfl, r, hb_3⟩
  replace hs := hs.bl hb_3
  obtain ⟨n_r, o_r, k_r, c_r, rfl⟩ := r.open2
  have Lr := hide (r.lenOf (HL.out))
  refine hK _ _ rfl trivial ?_
  clear hK K
  refine sq ?_
  intro K hK
  go_big_op
  go_fit (ri_any 0 _ (by decide) (by decide))
  rintro e w_4 ⟨v_z, rfl, z, hb_4⟩
  replace hs := hs.bl hb_4
  replace z := z.rd
  obtain ⟨n_z, o_z, k_z, c_z, rfl⟩ := z.open2
  have Lz := hide (z.lenOf (zlen_i (0 : Int) (by decide) (by decide)))
  refine hK _ _ rfl trivial ?_
  clear hK K
  refine sq ?_
  refine .r0 ?_
  refine sq ?_
  refine .s4 hs.g0 (fun _ => hs.u0 kb_b1) ?_; clear hs; intro w_5 hs hd5 ho5
  refine sq ?_
  refine .mv ?_
  apply wpSq_end
  refine hK8 _ _ ?_
  refine wp_ret ?_
  try dsimp only [Exit.then, Exit.inBlock]
  obtain ⟨r0_0, r0_1, r0_2, r0_3⟩ := hs.g0.f4
  refine bodyPost_ret (v := (.tuple #[(.agg #[.bool n_r, .slice o_r k_r c_r, .bool n_z, .slice o_z k_z c_z]), (.int .i64 0)])) (by simp [results, Tryz.results21, go_sem, r0_0, r0_1, r0_2, r0_3]) rfl ?_
  have k3_5 := (kb hb_4).o hd5 ho5
  replace r := r.k k3_5
  have k4_5 := ko hd5 ho5
  replace z := z.k k4_5
  exact ⟨_, rfl, .mk' r z, hs.b⟩
/-- An amount is told. -/
def Am (Q : ByteArray) (n : Int) : Prop := (dig n.natAbs).length ≤ 8192 ∧ ∀ w1 : World, Calls Tryz.prog 54 #[.string Q] w1 fun e w' => ∃ v, e = .returned (.tuple #[v, .bool true]) ∧ ZC w' v n ∧ Below w1.heap.size w1 w'
def AmNo (Q : ByteArray) : Prop := ∀ w1 : World, Calls Tryz.prog 54 #[.string Q] w1 fun e w' => e = .returned (.tuple #[.agg #[.bool false, .slice none 0 0], .bool false]) ∧ Below w1.heap.size w1 w'
def Sp (B : ByteArray) (K : Nat) : Prop := ∀ w1 : World, Calls Tryz.prog 53 #[.string B] w1 fun e w' => e = .returned (.int .i64 (K : Int)) ∧ Below w1.heap.size w1 w'
set_option maxHeartbeats 4000000 in
set_option maxRecDepth 20000 in
theorem rp_a_yes (w : World) (hsz : s.size ≤ 65536) {c : UInt8} (hp : 0 < s.size) (hc : s[s.size - 1]'(by omega) = c) (h105 : ((c.toNat : Int) != 105) = false) {n : Int} (h1 : s.size - 1 = 0) (hS : Sp (s.extract 0 (s.size - 1)) 0) (hA : Am (s.extract 0 (s.size - 1)) n) :
    Calls Tryz.prog 21 #[.string s] w fun e w' => ∃ r, e = .returned (.tuple #[r, .int .i64 0]) ∧ PC w' r (0) (n) ∧ Below w.heap.size w w' := by
  have hw : wrap64 ((s.size : Int) - 1) = ((s.size - 1 : Nat) : Int) := by unfold wrap64; omega
  have hs0 : ((s.size : Int) == 0) = false := by simpa using (show s.size ≠ 0 by omega)
  have hs1 : (65536 < (s.size : Int)) = False := eq_false (by omega)
  have HS := hide hS
  have HA := hide hA
  have hh : (0 < s.size - 1) = False := eq_false (by omega)
  have hhi : ((0 : Int) < ((s.size - 1 : Nat) : Int)) = False := eq_false (by omega)
  clear hS hA h1
  go_enter Tryz.func21, Tryz.ntmps21
  have hs := St.nil w
  refine wp_seq_k ?_
  intro K1 hK1
  refine rg [0, 1] ?_
  refine sq ?_
  refine .al hs ?_; clear hs; intro p_b1 w_1 hs n1 kb_b1
  refine sq ?_
  refine .mv ?_
  apply wpSq_end
  refine hK1 _ _ ?_
  refine wp_seq_k ?_
  intro K2 hK2
  refine wp_seq_k ?_
  intro K3 hK3
  refine rg [0, 1, 2] ?_
  refine sq ?_
  refine .mv ?_
  refine sq ?_
  refine .r0 ?_
  refine sq ?_
  refine .r0 ?_
  apply wpSq_end
  refine hK3 _ _ ?_
  refine cf ?_
  refine wp_skip ?_
  refine hK2 _ _ ?_
  refine wp_seq_k ?_
  intro K4 hK4
  refine wp_seq_k ?_
  intro K5 hK5
  refine rg [0, 1, 2, 3, 4, 5, 6, 7, 8, 9, 10] ?_
  refine sq ?_
  refine .mv ?_
  refine sq ?_
  refine .r0 ?_
  refine sq ?_
  refine .r0 ?_
  refine sq ?_
  refine .mv ?_
  refine sq ?_
  refine .mv ?_
  refine sq ?_
  refine .mv ?_
  refine sq ?_
  refine .r0 ?_
  refine sq ?_
  refine .r0 ?_
  refine sq ?_
  refine .r0 ?_
  refine sq ?_
  refine .r0 ?_
  refine sq ?_
  refine .r0 ?_
  apply wpSq_end
  refine hK5 _ _ ?_
  refine cf ?_
  refine wp_skip ?_
  refine hK4 _ _ ?_
  refine wp_seq_k ?_
  intro K6 hK6
  refine rg [0, 1, 2, 3, 4, 5] ?_
  refine sq ?_
  refine .mv ?_
  refine sq ?_
  refine .mv ?_
  refine sq ?_
  refine .r0 ?_
  refine sq ?_
  refine .r0 ?_
  refine sq ?_
  refine .r0 ?_
  refine sq ?_
  refine .mv ?_
  apply wpSq_end
  refine hK6 _ _ ?_
  refine wp_seq_k ?_
  intro K7 hK7
  refine rg [0, 1, 2] ?_
  refine sq ?_
  refine .mv ?_
  refine sq ?_
  intro K hK
  go_big_op
  go_fit (HS.out _)
  rintro e w_2 ⟨rfl, hb_2⟩
  replace hs := hs.bl hb_2
  refine hK _ _ rfl trivial ?_
  clear hK K
  refine sq ?_
  refine .mv ?_
  apply wpSq_end
  refine hK7 _ _ ?_
  refine wp_seq_k ?_
  intro K8 hK8
  refine rg [0, 1, 2] ?_
  refine sq ?_
  intro K hK
  go_big_op
  go_fit (ri_any 0 _ (by decide) (by decide))
  rintro e w_3 ⟨v_z, rfl, z, hb_3⟩
  replace hs := hs.bl hb_3
  replace z := z.rd
  obtain ⟨n_z, o_z, k_z, c_z, rfl⟩ := z.open2
  have Lz := hide (z.lenOf (zlen_i (0 : Int) (by decide) (by decide)))
  refine hK _ _ rfl trivial ?_
  clear hK K
  refine sq ?_
  refine .al hs ?_; clear hs; intro p_b2 w_4 hs n4 kb_b2
  refine sq ?_
  refine .s2 hs.g0 (fun _ => hs.u0 kb_b2) ?_; clear hs; intro w_5 hs hd5 ho5
  apply wpSq_end
  refine hK8 _ _ ?_
  refine wp_seq_k ?_
  intro K9 hK9
  refine rg [0] ?_
  refine sq ?_
  refine .mv ?_
  apply wpSq_end
  refine hK9 _ _ ?_
  refine wp_seq_k ?_
  intro K10 hK10
  refine wp_seq_k ?_
  intro K11 hK11
  refine rg [0, 1] ?_
  refine sq ?_
  refine .mv ?_
  refine sq ?_
  refine .r0 ?_
  apply wpSq_end
  refine hK11 _ _ ?_
  refine cf ?_
  refine wp_seq_k ?_
  intro K12 hK12
  refine rg [0, 1, 2, 3, 4, 5, 6, 7] ?_
  refine sq ?_
  refine .mv ?_
  refine sq ?_
  refine .r0 ?_
  refine sq ?_
  refine .r0 ?_
  refine sq ?_
  refine .mv ?_
  refine sk ?_
  refine sk ?_
  refine sk ?_
  refine sq ?_
  refine .r0 ?_
  apply wpSq_end
  refine hK12 _ _ ?_
  refine cf ?_
  refine wp_skip ?_
  refine hK10 _ _ ?_
  refine wp_seq_k ?_
  intro K13 hK13
  refine rg [0, 1, 2, 3, 4, 5, 6, 7] ?_
  refine sq ?_
  refine .mv ?_
  refine sq ?_
  intro K hK
  go_big_op
  go_fit (HA.out.2 _)
  rintro e w_6 ⟨v_a, rfl, a, hb_6⟩
  replace hs := hs.bl hb_6
  obtain ⟨n_a, o_a, k_a, c_a, rfl⟩ := a.open2
  have La := hide (a.lenOf (HA.out.1))
  refine hK _ _ rfl trivial ?_
  clear hK K
  refine sq ?_
  refine .mv ?_
  refine sq ?_
  refine .r0 ?_
  refine sq ?_
  refine .r0 ?_
  refine sq ?_
  refine .al hs ?_; clear hs; intro p_b3 w_7 hs n7 kb_b3
  refine sq ?_
  refine .s2 hs.g0 (fun _ => hs.u0 kb_b3) ?_; clear hs; intro w_8 hs hd8 ho8
  refine sq ?_
  refine .mv ?_
  apply wpSq_end
  refine hK13 _ _ ?_
  refine wp_seq_k ?_
  intro K14 hK14
  refine wp_seq_k ?_
  intro K15 hK15
  refine rg [0, 1] ?_
  refine sq ?_
  refine .mv ?_
  refine sq ?_
  refine .r0 ?_
  apply wpSq_end
  refine hK15 _ _ ?_
  refine cf ?_
  refine wp_skip ?_
  refine hK14 _ _ ?_
  refine wp_seq_k ?_
  intro K16 hK16
  refine wp_seq_k ?_
  intro K17 hK17
  refine rg [0] ?_
  refine sq ?_
  refine .mv ?_
  apply wpSq_end
  refine hK17 _ _ ?_
  refine cf ?_
  refine wp_skip ?_
  refine hK16 _ _ ?_
  refine wp_seq_k ?_
  intro K18 hK18
  refine rg [0, 1, 2, 3, 4] ?_
  refine sq ?_
  refine .r2 hs.g1.f2 ?_
  refine sq ?_
  refine .r2 hs.g0.f2 ?_
  refine sq ?_
  refine .r0 ?_
  refine sq ?_
  refine .s4 hs.g2 (fun _ => hs.u2 kb_b1) ?_; clear hs; intro w_9 hs hd9 ho9
  refine sq ?_
  refine .mv ?_
  apply wpSq_end
  refine hK18 _ _ ?_
  refine wp_ret ?_
  try dsimp only [Exit.then, Exit.inBlock]
  obtain ⟨r0_0, r0_1, r0_2, r0_3⟩ := hs.g2.f4
  refine bodyPost_ret (v := (.tuple #[(.agg #[.bool n_z, .slice o_z k_z c_z, .bool n_a, .slice o_a k_a c_a]), (.int .i64 0)])) (by simp [results, Tryz.results21, go_sem, r0_0, r0_1, r0_2, r0_3]) rfl ?_
  have k3_9 := (((((kb n4).o hd5 ho5).b hb_6).b n7).o hd8 ho8).o hd9 ho9
  replace z := z.k k3_9
  have k6_9 := ((kb n7).o hd8 ho8).o hd9 ho9
  replace a := a.k k6_9
  exact ⟨_, rfl, .mk' z a, hs.b⟩
set_option maxHeartbeats 4000000 in
set_option maxRecDepth 20000 in
theorem rp_c_yes (w : World) (hsz : s.size ≤ 65536) {c : UInt8} (hp : 0 < s.size) (hc : s[s.size - 1]'(by omega) = c) (h105 : ((c.toNat : Int) != 105) = false) {n : Int} (h1 : 0 < s.size - 1) (h45 : ((((s.extract 0 (s.size - 1))[0]'(by rw [ByteArray.size_extract]; omega)).toNat : Int) == 45) = false) (hS : Sp (s.extract 0 (s.size - 1)) 0) (hA : Am (s.extract 0 (s.size - 1)) n) :
    Calls Tryz.prog 21 #[.string s] w fun e w' => ∃ r, e = .returned (.tuple #[r, .int .i64 0]) ∧ PC w' r (0) (n) ∧ Below w.heap.size w w' := by
  have hw : wrap64 ((s.size : Int) - 1) = ((s.size - 1 : Nat) : Int) := by unfold wrap64; omega
  have hs0 : ((s.size : Int) == 0) = false := by simpa using (show s.size ≠ 0 by omega)
  have hs1 : (65536 < (s.size : Int)) = False := eq_false (by omega)
  have HS := hide hS
  have HA := hide hA
  have hh : (0 < s.size - 1) = True := eq_true h1
  have hhi : ((0 : Int) < ((s.size - 1 : Nat) : Int)) = True := eq_true (by omega)
  clear hS hA
  go_enter Tryz.func21, Tryz.ntmps21
  have hs := St.nil w
  refine wp_seq_k ?_
  intro K1 hK1
  refine rg [0, 1] ?_
  refine sq ?_
  refine .al hs ?_; clear hs; intro p_b1 w_1 hs n1 kb_b1
  refine sq ?_
  refine .mv ?_
  apply wpSq_end
  refine hK1 _ _ ?_
  refine wp_seq_k ?_
  intro K2 hK2
  refine wp_seq_k ?_
  intro K3 hK3
  refine rg [0, 1, 2] ?_
  refine sq ?_
  refine .mv ?_
  refine sq ?_
  refine .r0 ?_
  refine sq ?_
  refine .r0 ?_
  apply wpSq_end
  refine hK3 _ _ ?_
  refine cf ?_
  refine wp_skip ?_
  refine hK2 _ _ ?_
  refine wp_seq_k ?_
  intro K4 hK4
  refine wp_seq_k ?_
  intro K5 hK5
  refine rg [0, 1, 2, 3, 4, 5, 6, 7, 8, 9, 10] ?_
  refine sq ?_
  refine .mv ?_
  refine sq ?_
  refine .r0 ?_
  refine sq ?_
  refine .r0 ?_
  refine sq ?_
  refine .mv ?_
  refine sq ?_
  refine .mv ?_
  refine sq ?_
  refine .mv ?_
  refine sq ?_
  refine .r0 ?_
  refine sq ?_
  refine .r0 ?_
  refine sq ?_
  refine .r0 ?_
  refine sq ?_
  refine .r0 ?_
  refine sq ?_
  refine .r0 ?_
  apply wpSq_end
  refine hK5 _ _ ?_
  refine cf ?_
  refine wp_skip ?_
  refine hK4 _ _ ?_
  refine wp_seq_k ?_
  intro K6 hK6
  refine rg [0, 1, 2, 3, 4, 5] ?_
  refine sq ?_
  refine .mv ?_
  refine sq ?_
  refine .mv ?_
  refine sq ?_
  refine .r0 ?_
  refine sq ?_
  refine .r0 ?_
  refine sq ?_
  refine .r0 ?_
  refine sq ?_
  refine .mv ?_
  apply wpSq_end
  refine hK6 _ _ ?_
  refine wp_seq_k ?_
  intro K7 hK7
  refine rg [0, 1, 2] ?_
  refine sq ?_
  refine .mv ?_
  refine sq ?_
  intro K hK
  go_big_op
  go_fit (HS.out _)
  rintro e w_2 ⟨rfl, hb_2⟩
  replace hs := hs.bl hb_2
  refine hK _ _ rfl trivial ?_
  clear hK K
  refine sq ?_
  refine .mv ?_
  apply wpSq_end
  refine hK7 _ _ ?_
  refine wp_seq_k ?_
  intro K8 hK8
  refine rg [0, 1, 2] ?_
  refine sq ?_
  intro K hK
  go_big_op
  go_fit (ri_any 0 _ (by decide) (by decide))
  rintro e w_3 ⟨v_z, rfl, z, hb_3⟩
  replace hs := hs.bl hb_3
  replace z := z.rd
  obtain ⟨n_z, o_z, k_z, c_z, rfl⟩ := z.open2
  have Lz := hide (z.lenOf (zlen_i (0 : Int) (by decide) (by decide)))
  refine hK _ _ rfl trivial ?_
  clear hK K
  refine sq ?_
  refine .al hs ?_; clear hs; intro p_b2 w_4 hs n4 kb_b2
  refine sq ?_
  refine .s2 hs.g0 (fun _ => hs.u0 kb_b2) ?_; clear hs; intro w_5 hs hd5 ho5
  apply wpSq_end
  refine hK8 _ _ ?_
  refine wp_seq_k ?_
  intro K9 hK9
  refine rg [0] ?_
  refine sq ?_
  refine .mv ?_
  apply wpSq_end
  refine hK9 _ _ ?_
  refine wp_seq_k ?_
  intro K10 hK10
  refine wp_seq_k ?_
  intro K11 hK11
  refine rg [0, 1] ?_
  refine sq ?_
  refine .mv ?_
  refine sq ?_
  refine .r0 ?_
  apply wpSq_end
  refine hK11 _ _ ?_
  refine cf ?_
  refine wp_seq_k ?_
  intro K12 hK12
  refine rg [0, 1, 2, 3, 4, 5, 6, 7] ?_
  refine sq ?_
  refine .mv ?_
  refine sq ?_
  refine .r0 ?_
  refine sq ?_
  refine .r0 ?_
  refine sq ?_
  refine .mv ?_
  refine sq ?_
  refine .mv ?_
  refine sq ?_
  refine .r0 ?_
  refine sq ?_
  refine .r0 ?_
  refine sq ?_
  refine .r0 ?_
  apply wpSq_end
  refine hK12 _ _ ?_
  refine cf ?_
  refine wp_skip ?_
  refine hK10 _ _ ?_
  refine wp_seq_k ?_
  intro K13 hK13
  refine rg [0, 1, 2, 3, 4, 5, 6, 7] ?_
  refine sq ?_
  refine .mv ?_
  refine sq ?_
  intro K hK
  go_big_op
  go_fit (HA.out.2 _)
  rintro e w_6 ⟨v_a, rfl, a, hb_6⟩
  replace hs := hs.bl hb_6
  obtain ⟨n_a, o_a, k_a, c_a, rfl⟩ := a.open2
  have La := hide (a.lenOf (HA.out.1))
  refine hK _ _ rfl trivial ?_
  clear hK K
  refine sq ?_
  refine .mv ?_
  refine sq ?_
  refine .r0 ?_
  refine sq ?_
  refine .r0 ?_
  refine sq ?_
  refine .al hs ?_; clear hs; intro p_b3 w_7 hs n7 kb_b3
  refine sq ?_
  refine .s2 hs.g0 (fun _ => hs.u0 kb_b3) ?_; clear hs; intro w_8 hs hd8 ho8
  refine sq ?_
  refine .mv ?_
  apply wpSq_end
  refine hK13 _ _ ?_
  refine wp_seq_k ?_
  intro K14 hK14
  refine wp_seq_k ?_
  intro K15 hK15
  refine rg [0, 1] ?_
  refine sq ?_
  refine .mv ?_
  refine sq ?_
  refine .r0 ?_
  apply wpSq_end
  refine hK15 _ _ ?_
  refine cf ?_
  refine wp_skip ?_
  refine hK14 _ _ ?_
  refine wp_seq_k ?_
  intro K16 hK16
  refine wp_seq_k ?_
  intro K17 hK17
  refine rg [0] ?_
  refine sq ?_
  refine .mv ?_
  apply wpSq_end
  refine hK17 _ _ ?_
  refine cf ?_
  refine wp_skip ?_
  refine hK16 _ _ ?_
  refine wp_seq_k ?_
  intro K18 hK18
  refine rg [0, 1, 2, 3, 4] ?_
  refine sq ?_
  refine .r2 hs.g1.f2 ?_
  refine sq ?_
  refine .r2 hs.g0.f2 ?_
  refine sq ?_
  refine .r0 ?_
  refine sq ?_
  refine .s4 hs.g2 (fun _ => hs.u2 kb_b1) ?_; clear hs; intro w_9 hs hd9 ho9
  refine sq ?_
  refine .mv ?_
  apply wpSq_end
  refine hK18 _ _ ?_
  refine wp_ret ?_
  try dsimp only [Exit.then, Exit.inBlock]
  obtain ⟨r0_0, r0_1, r0_2, r0_3⟩ := hs.g2.f4
  refine bodyPost_ret (v := (.tuple #[(.agg #[.bool n_z, .slice o_z k_z c_z, .bool n_a, .slice o_a k_a c_a]), (.int .i64 0)])) (by simp [results, Tryz.results21, go_sem, r0_0, r0_1, r0_2, r0_3]) rfl ?_
  have k3_9 := (((((kb n4).o hd5 ho5).b hb_6).b n7).o hd8 ho8).o hd9 ho9
  replace z := z.k k3_9
  have k6_9 := ((kb n7).o hd8 ho8).o hd9 ho9
  replace a := a.k k6_9
  exact ⟨_, rfl, .mk' z a, hs.b⟩
set_option maxHeartbeats 4000000 in
set_option maxRecDepth 20000 in
theorem rp_c_no (w : World) (hsz : s.size ≤ 65536) {c : UInt8} (hp : 0 < s.size) (hc : s[s.size - 1]'(by omega) = c) (h105 : ((c.toNat : Int) != 105) = false) (h1 : 0 < s.size - 1) (h45 : ((((s.extract 0 (s.size - 1))[0]'(by rw [ByteArray.size_extract]; omega)).toNat : Int) == 45) = false) (hS : Sp (s.extract 0 (s.size - 1)) 0) (hA : AmNo (s.extract 0 (s.size - 1))) :
    Calls Tryz.prog 21 #[.string s] w fun e w' => e = .returned (.tuple #[.agg #[.bool false, .slice none 0 0, .bool false, .slice none 0 0], .int .i64 7]) ∧ Below w.heap.size w w' := by
  have hw : wrap64 ((s.size : Int) - 1) = ((s.size - 1 : Nat) : Int) := by unfold wrap64; omega
  have hs0 : ((s.size : Int) == 0) = false := by simpa using (show s.size ≠ 0 by omega)
  have hs1 : (65536 < (s.size : Int)) = False := eq_false (by omega)
  have HS := hide hS
  have HA := hide hA
  have hh : (0 < s.size - 1) = True := eq_true h1
  have hhi : ((0 : Int) < ((s.size - 1 : Nat) : Int)) = True := eq_true (by omega)
  clear hS hA
  go_enter Tryz.func21, Tryz.ntmps21
  have hs := St.nil w
  refine wp_seq_k ?_
  intro K1 hK1
  refine rg [0, 1] ?_
  refine sq ?_
  refine .al hs ?_; clear hs; intro p_b1 w_1 hs n1 kb_b1
  refine sq ?_
  refine .mv ?_
  apply wpSq_end
  refine hK1 _ _ ?_
  refine wp_seq_k ?_
  intro K2 hK2
  refine wp_seq_k ?_
  intro K3 hK3
  refine rg [0, 1, 2] ?_
  refine sq ?_
  refine .mv ?_
  refine sq ?_
  refine .r0 ?_
  refine sq ?_
  refine .r0 ?_
  apply wpSq_end
  refine hK3 _ _ ?_
  refine cf ?_
  refine wp_skip ?_
  refine hK2 _ _ ?_
  refine wp_seq_k ?_
  intro K4 hK4
  refine wp_seq_k ?_
  intro K5 hK5
  refine rg [0, 1, 2, 3, 4, 5, 6, 7, 8, 9, 10] ?_
  refine sq ?_
  refine .mv ?_
  refine sq ?_
  refine .r0 ?_
  refine sq ?_
  refine .r0 ?_
  refine sq ?_
  refine .mv ?_
  refine sq ?_
  refine .mv ?_
  refine sq ?_
  refine .mv ?_
  refine sq ?_
  refine .r0 ?_
  refine sq ?_
  refine .r0 ?_
  refine sq ?_
  refine .r0 ?_
  refine sq ?_
  refine .r0 ?_
  refine sq ?_
  refine .r0 ?_
  apply wpSq_end
  refine hK5 _ _ ?_
  refine cf ?_
  refine wp_skip ?_
  refine hK4 _ _ ?_
  refine wp_seq_k ?_
  intro K6 hK6
  refine rg [0, 1, 2, 3, 4, 5] ?_
  refine sq ?_
  refine .mv ?_
  refine sq ?_
  refine .mv ?_
  refine sq ?_
  refine .r0 ?_
  refine sq ?_
  refine .r0 ?_
  refine sq ?_
  refine .r0 ?_
  refine sq ?_
  refine .mv ?_
  apply wpSq_end
  refine hK6 _ _ ?_
  refine wp_seq_k ?_
  intro K7 hK7
  refine rg [0, 1, 2] ?_
  refine sq ?_
  refine .mv ?_
  refine sq ?_
  intro K hK
  go_big_op
  go_fit (HS.out _)
  rintro e w_2 ⟨rfl, hb_2⟩
  replace hs := hs.bl hb_2
  refine hK _ _ rfl trivial ?_
  clear hK K
  refine sq ?_
  refine .mv ?_
  apply wpSq_end
  refine hK7 _ _ ?_
  refine wp_seq_k ?_
  intro K8 hK8
  refine rg [0, 1, 2] ?_
  refine sq ?_
  intro K hK
  go_big_op
  go_fit (ri_any 0 _ (by decide) (by decide))
  rintro e w_3 ⟨v_z, rfl, z, hb_3⟩
  replace hs := hs.bl hb_3
  replace z := z.rd
  obtain ⟨n_z, o_z, k_z, c_z, rfl⟩ := z.open2
  have Lz := hide (z.lenOf (zlen_i (0 : Int) (by decide) (by decide)))
  refine hK _ _ rfl trivial ?_
  clear hK K
  refine sq ?_
  refine .al hs ?_; clear hs; intro p_b2 w_4 hs n4 kb_b2
  refine sq ?_
  refine .s2 hs.g0 (fun _ => hs.u0 kb_b2) ?_; clear hs; intro w_5 hs hd5 ho5
  apply wpSq_end
  refine hK8 _ _ ?_
  refine wp_seq_k ?_
  intro K9 hK9
  refine rg [0] ?_
  refine sq ?_
  refine .mv ?_
  apply wpSq_end
  refine hK9 _ _ ?_
  refine wp_seq_k ?_
  intro K10 hK10
  refine wp_seq_k ?_
  intro K11 hK11
  refine rg [0, 1] ?_
  refine sq ?_
  refine .mv ?_
  refine sq ?_
  refine .r0 ?_
  apply wpSq_end
  refine hK11 _ _ ?_
  refine cf ?_
  refine wp_seq_k ?_
  intro K12 hK12
  refine rg [0, 1, 2, 3, 4, 5, 6, 7] ?_
  refine sq ?_
  refine .mv ?_
  refine sq ?_
  refine .r0 ?_
  refine sq ?_
  refine .r0 ?_
  refine sq ?_
  refine .mv ?_
  refine sq ?_
  refine .mv ?_
  refine sq ?_
  refine .r0 ?_
  refine sq ?_
  refine .r0 ?_
  refine sq ?_
  refine .r0 ?_
  apply wpSq_end
  refine hK12 _ _ ?_
  refine cf ?_
  refine wp_skip ?_
  refine hK10 _ _ ?_
  refine wp_seq_k ?_
  intro K13 hK13
  refine rg [0, 1, 2, 3, 4, 5, 6, 7] ?_
  refine sq ?_
  refine .mv ?_
  refine sq ?_
  intro K hK
  go_big_op
  go_fit (HA.out _)
  rintro e w_6 ⟨rfl, hb_6⟩
  replace hs := hs.bl hb_6
  refine hK _ _ rfl trivial ?_
  clear hK K
  refine sq ?_
  refine .mv ?_
  refine sq ?_
  refine .r0 ?_
  refine sq ?_
  refine .r0 ?_
  refine sq ?_
  refine .al hs ?_; clear hs; intro p_b3 w_7 hs n7 kb_b3
  refine sq ?_
  refine .s2 hs.g0 (fun _ => hs.u0 kb_b3) ?_; clear hs; intro w_8 hs hd8 ho8
  refine sq ?_
  refine .mv ?_
  apply wpSq_end
  refine hK13 _ _ ?_
  refine wp_seq_k ?_
  intro K14 hK14
  refine wp_seq_k ?_
  intro K15 hK15
  refine rg [0, 1] ?_
  refine sq ?_
  refine .mv ?_
  refine sq ?_
  refine .r0 ?_
  apply wpSq_end
  refine hK15 _ _ ?_
  refine ct ?_
  refine wp_seq_k ?_
  intro K16 hK16
  refine rg [0, 1, 2] ?_
  refine sq ?_
  refine .r0 ?_
  refine sq ?_
  refine .s4 hs.g2 (fun _ => hs.u2 kb_b1) ?_; clear hs; intro w_9 hs hd9 ho9
  refine sq ?_
  refine .mv ?_
  apply wpSq_end
  refine hK16 _ _ ?_
  refine wp_ret ?_
  try dsimp only [Exit.then, Exit.inBlock]
  obtain ⟨r0_0, r0_1, r0_2, r0_3⟩ := hs.g2.f4
  refine bodyPost_ret (v := (.tuple #[(.agg #[.bool false, .slice none 0 0, .bool false, .slice none 0 0]), (.int .i64 7)])) (by simp [results, Tryz.results21, go_sem, r0_0, r0_1, r0_2, r0_3]) rfl ?_
  have hb := hs.b
  exact ⟨rfl, hb⟩
set_option maxHeartbeats 4000000 in
set_option maxRecDepth 20000 in
theorem rp_b_yes (w : World) (hsz : s.size ≤ 65536) {c : UInt8} (hp : 0 < s.size) (hc : s[s.size - 1]'(by omega) = c) (h105 : ((c.toNat : Int) != 105) = false) {n : Int} (h1 : 0 < s.size - 1) (h45 : ((((s.extract 0 (s.size - 1))[0]'(by rw [ByteArray.size_extract]; omega)).toNat : Int) == 45) = true) (hS : Sp (s.extract 0 (s.size - 1)) 0) (hA : Am ((s.extract 0 (s.size - 1)).extract 1 (s.size - 1)) n) :
    Calls Tryz.prog 21 #[.string s] w fun e w' => ∃ r, e = .returned (.tuple #[r, .int .i64 0]) ∧ PC w' r (0) (-n) ∧ Below w.heap.size w w' := by
  have hw : wrap64 ((s.size : Int) - 1) = ((s.size - 1 : Nat) : Int) := by unfold wrap64; omega
  have hs0 : ((s.size : Int) == 0) = false := by simpa using (show s.size ≠ 0 by omega)
  have hs1 : (65536 < (s.size : Int)) = False := eq_false (by omega)
  have HS := hide hS
  have HA := hide hA
  have HNL := hide (show (dig (-n).natAbs).length ≤ 8192 from Nat.le_trans (Nat.le_of_eq (by rw [Int.natAbs_neg])) hA.1)
  have hh : (0 < s.size - 1) = True := eq_true h1
  have hhi : ((0 : Int) < ((s.size - 1 : Nat) : Int)) = True := eq_true (by omega)
  clear hS hA
  go_enter Tryz.func21, Tryz.ntmps21
  have hs := St.nil w
  refine wp_seq_k ?_
  intro K1 hK1
  refine rg [0, 1] ?_
  refine sq ?_
  refine .al hs ?_; clear hs; intro p_b1 w_1 hs n1 kb_b1
  refine sq ?_
  refine .mv ?_
  apply wpSq_end
  refine hK1 _ _ ?_
  refine wp_seq_k ?_
  intro K2 hK2
  refine wp_seq_k ?_
  intro K3 hK3
  refine rg [0, 1, 2] ?_
  refine sq ?_
  refine .mv ?_
  refine sq ?_
  refine .r0 ?_
  refine sq ?_
  refine .r0 ?_
  apply wpSq_end
  refine hK3 _ _ ?_
  refine cf ?_
  refine wp_skip ?_
  refine hK2 _ _ ?_
  refine wp_seq_k ?_
  intro K4 hK4
  refine wp_seq_k ?_
  intro K5 hK5
  refine rg [0, 1, 2, 3, 4, 5, 6, 7, 8, 9, 10] ?_
  refine sq ?_
  refine .mv ?_
  refine sq ?_
  refine .r0 ?_
  refine sq ?_
  refine .r0 ?_
  refine sq ?_
  refine .mv ?_
  refine sq ?_
  refine .mv ?_
  refine sq ?_
  refine .mv ?_
  refine sq ?_
  refine .r0 ?_
  refine sq ?_
  refine .r0 ?_
  refine sq ?_
  refine .r0 ?_
  refine sq ?_
  refine .r0 ?_
  refine sq ?_
  refine .r0 ?_
  apply wpSq_end
  refine hK5 _ _ ?_
  refine cf ?_
  refine wp_skip ?_
  refine hK4 _ _ ?_
  refine wp_seq_k ?_
  intro K6 hK6
  refine rg [0, 1, 2, 3, 4, 5] ?_
  refine sq ?_
  refine .mv ?_
  refine sq ?_
  refine .mv ?_
  refine sq ?_
  refine .r0 ?_
  refine sq ?_
  refine .r0 ?_
  refine sq ?_
  refine .r0 ?_
  refine sq ?_
  refine .mv ?_
  apply wpSq_end
  refine hK6 _ _ ?_
  refine wp_seq_k ?_
  intro K7 hK7
  refine rg [0, 1, 2] ?_
  refine sq ?_
  refine .mv ?_
  refine sq ?_
  intro K hK
  go_big_op
  go_fit (HS.out _)
  rintro e w_2 ⟨rfl, hb_2⟩
  replace hs := hs.bl hb_2
  refine hK _ _ rfl trivial ?_
  clear hK K
  refine sq ?_
  refine .mv ?_
  apply wpSq_end
  refine hK7 _ _ ?_
  refine wp_seq_k ?_
  intro K8 hK8
  refine rg [0, 1, 2] ?_
  refine sq ?_
  intro K hK
  go_big_op
  go_fit (ri_any 0 _ (by decide) (by decide))
  rintro e w_3 ⟨v_z, rfl, z, hb_3⟩
  replace hs := hs.bl hb_3
  replace z := z.rd
  obtain ⟨n_z, o_z, k_z, c_z, rfl⟩ := z.open2
  have Lz := hide (z.lenOf (zlen_i (0 : Int) (by decide) (by decide)))
  refine hK _ _ rfl trivial ?_
  clear hK K
  refine sq ?_
  refine .al hs ?_; clear hs; intro p_b2 w_4 hs n4 kb_b2
  refine sq ?_
  refine .s2 hs.g0 (fun _ => hs.u0 kb_b2) ?_; clear hs; intro w_5 hs hd5 ho5
  apply wpSq_end
  refine hK8 _ _ ?_
  refine wp_seq_k ?_
  intro K9 hK9
  refine rg [0] ?_
  refine sq ?_
  refine .mv ?_
  apply wpSq_end
  refine hK9 _ _ ?_
  refine wp_seq_k ?_
  intro K10 hK10
  refine wp_seq_k ?_
  intro K11 hK11
  refine rg [0, 1] ?_
  refine sq ?_
  refine .mv ?_
  refine sq ?_
  refine .r0 ?_
  apply wpSq_end
  refine hK11 _ _ ?_
  refine cf ?_
  refine wp_seq_k ?_
  intro K12 hK12
  refine rg [0, 1, 2, 3, 4, 5, 6, 7] ?_
  refine sq ?_
  refine .mv ?_
  refine sq ?_
  refine .r0 ?_
  refine sq ?_
  refine .r0 ?_
  refine sq ?_
  refine .mv ?_
  refine sq ?_
  refine .mv ?_
  refine sq ?_
  refine .r0 ?_
  refine sq ?_
  refine .r0 ?_
  refine sq ?_
  refine .r0 ?_
  apply wpSq_end
  refine hK12 _ _ ?_
  refine ct ?_
  refine wp_seq_k ?_
  intro K13 hK13
  refine rg [0] ?_
  refine sq ?_
  refine .mv ?_
  apply wpSq_end
  refine hK13 _ _ ?_
  refine rg [0, 1, 2] ?_
  refine sq ?_
  refine .mv ?_
  refine sq ?_
  refine .r0 ?_
  refine sq ?_
  refine .mv ?_
  apply wpSq_end
  refine hK10 _ _ ?_
  refine wp_seq_k ?_
  intro K14 hK14
  refine rg [0, 1, 2, 3, 4, 5, 6, 7] ?_
  refine sq ?_
  refine .mv ?_
  refine sq ?_
  intro K hK
  go_big_op
  go_fit (HA.out.2 _)
  rintro e w_6 ⟨v_a, rfl, a, hb_6⟩
  replace hs := hs.bl hb_6
  obtain ⟨n_a, o_a, k_a, c_a, rfl⟩ := a.open2
  have La := hide (a.lenOf (HA.out.1))
  refine hK _ _ rfl trivial ?_
  clear hK K
  refine sq ?_
  refine .mv ?_
  refine sq ?_
  refine .r0 ?_
  refine sq ?_
  refine .r0 ?_
  refine sq ?_
  refine .al hs ?_; clear hs; intro p_b3 w_7 hs n7 kb_b3
  refine sq ?_
  refine .s2 hs.g0 (fun _ => hs.u0 kb_b3) ?_; clear hs; intro w_8 hs hd8 ho8
  refine sq ?_
  refine .mv ?_
  apply wpSq_end
  refine hK14 _ _ ?_
  refine wp_seq_k ?_
  intro K15 hK15
  refine wp_seq_k ?_
  intro K16 hK16
  refine rg [0, 1] ?_
  refine sq ?_
  refine .mv ?_
  refine sq ?_
  refine .r0 ?_
  apply wpSq_end
  refine hK16 _ _ ?_
  refine cf ?_
  refine wp_skip ?_
  refine hK15 _ _ ?_
  refine wp_seq_k ?_
  intro K17 hK17
  refine wp_seq_k ?_
  intro K18 hK18
  refine rg [0] ?_
  refine sq ?_
  refine .mv ?_
  apply wpSq_end
  refine hK18 _ _ ?_
  refine ct ?_
  refine rg [0, 1, 2] ?_
  refine sq ?_
  refine .r2 hs.g0.f2 ?_
  refine sq ?_
  intro K hK
  have k6_8 := (kb n7).o hd8 ho8
  replace a := a.k k6_8
  go_big_op
  go_fit (rneg_any (a.zn La.out) (by omega))
  rintro e w_9 ⟨v_b, rfl, b, hb_9⟩
  replace hs := hs.bl hb_9
  replace b := b.rd
  obtain ⟨n_b, o_b, k_b, c_b, rfl⟩ := b.open2
  have Lb := hide (b.lenOf (HNL.out))
  refine hK _ _ rfl trivial ?_
  clear hK K
  refine sq ?_
  refine .s2 hs.g0 (fun _ => hs.u0 kb_b3) ?_; clear hs; intro w_10 hs hd10 ho10
  apply wpSq_end
  refine hK17 _ _ ?_
  refine wp_seq_k ?_
  intro K19 hK19
  refine rg [0, 1, 2, 3, 4] ?_
  refine sq ?_
  refine .r2 hs.g1.f2 ?_
  refine sq ?_
  refine .r2 hs.g0.f2 ?_
  refine sq ?_
  refine .r0 ?_
  refine sq ?_
  refine .s4 hs.g2 (fun _ => hs.u2 kb_b1) ?_; clear hs; intro w_11 hs hd11 ho11
  refine sq ?_
  refine .mv ?_
  apply wpSq_end
  refine hK19 _ _ ?_
  refine wp_ret ?_
  try dsimp only [Exit.then, Exit.inBlock]
  obtain ⟨r0_0, r0_1, r0_2, r0_3⟩ := hs.g2.f4
  refine bodyPost_ret (v := (.tuple #[(.agg #[.bool n_z, .slice o_z k_z c_z, .bool n_b, .slice o_b k_b c_b]), (.int .i64 0)])) (by simp [results, Tryz.results21, go_sem, r0_0, r0_1, r0_2, r0_3]) rfl ?_
  have k3_11 := (((((((kb n4).o hd5 ho5).b hb_6).b n7).o hd8 ho8).b hb_9).o hd10 ho10).o hd11 ho11
  replace z := z.k k3_11
  have k9_11 := (ko hd10 ho10).o hd11 ho11
  replace b := b.k k9_11
  exact ⟨_, rfl, .mk' z b, hs.b⟩
set_option maxHeartbeats 4000000 in
set_option maxRecDepth 20000 in
theorem rp_b_no (w : World) (hsz : s.size ≤ 65536) {c : UInt8} (hp : 0 < s.size) (hc : s[s.size - 1]'(by omega) = c) (h105 : ((c.toNat : Int) != 105) = false) (h1 : 0 < s.size - 1) (h45 : ((((s.extract 0 (s.size - 1))[0]'(by rw [ByteArray.size_extract]; omega)).toNat : Int) == 45) = true) (hS : Sp (s.extract 0 (s.size - 1)) 0) (hA : AmNo ((s.extract 0 (s.size - 1)).extract 1 (s.size - 1))) :
    Calls Tryz.prog 21 #[.string s] w fun e w' => e = .returned (.tuple #[.agg #[.bool false, .slice none 0 0, .bool false, .slice none 0 0], .int .i64 7]) ∧ Below w.heap.size w w' := by
  have hw : wrap64 ((s.size : Int) - 1) = ((s.size - 1 : Nat) : Int) := by unfold wrap64; omega
  have hs0 : ((s.size : Int) == 0) = false := by simpa using (show s.size ≠ 0 by omega)
  have hs1 : (65536 < (s.size : Int)) = False := eq_false (by omega)
  have HS := hide hS
  have HA := hide hA
  have hh : (0 < s.size - 1) = True := eq_true h1
  have hhi : ((0 : Int) < ((s.size - 1 : Nat) : Int)) = True := eq_true (by omega)
  clear hS hA
  go_enter Tryz.func21, Tryz.ntmps21
  have hs := St.nil w
  refine wp_seq_k ?_
  intro K1 hK1
  refine rg [0, 1] ?_
  refine sq ?_
  refine .al hs ?_; clear hs; intro p_b1 w_1 hs n1 kb_b1
  refine sq ?_
  refine .mv ?_
  apply wpSq_end
  refine hK1 _ _ ?_
  refine wp_seq_k ?_
  intro K2 hK2
  refine wp_seq_k ?_
  intro K3 hK3
  refine rg [0, 1, 2] ?_
  refine sq ?_
  refine .mv ?_
  refine sq ?_
  refine .r0 ?_
  refine sq ?_
  refine .r0 ?_
  apply wpSq_end
  refine hK3 _ _ ?_
  refine cf ?_
  refine wp_skip ?_
  refine hK2 _ _ ?_
  refine wp_seq_k ?_
  intro K4 hK4
  refine wp_seq_k ?_
  intro K5 hK5
  refine rg [0, 1, 2, 3, 4, 5, 6, 7, 8, 9, 10] ?_
  refine sq ?_
  refine .mv ?_
  refine sq ?_
  refine .r0 ?_
  refine sq ?_
  refine .r0 ?_
  refine sq ?_
  refine .mv ?_
  refine sq ?_
  refine .mv ?_
  refine sq ?_
  refine .mv ?_
  refine sq ?_
  refine .r0 ?_
  refine sq ?_
  refine .r0 ?_
  refine sq ?_
  refine .r0 ?_
  refine sq ?_
  refine .r0 ?_
  refine sq ?_
  refine .r0 ?_
  apply wpSq_end
  refine hK5 _ _ ?_
  refine cf ?_
  refine wp_skip ?_
  refine hK4 _ _ ?_
  refine wp_seq_k ?_
  intro K6 hK6
  refine rg [0, 1, 2, 3, 4, 5] ?_
  refine sq ?_
  refine .mv ?_
  refine sq ?_
  refine .mv ?_
  refine sq ?_
  refine .r0 ?_
  refine sq ?_
  refine .r0 ?_
  refine sq ?_
  refine .r0 ?_
  refine sq ?_
  refine .mv ?_
  apply wpSq_end
  refine hK6 _ _ ?_
  refine wp_seq_k ?_
  intro K7 hK7
  refine rg [0, 1, 2] ?_
  refine sq ?_
  refine .mv ?_
  refine sq ?_
  intro K hK
  go_big_op
  go_fit (HS.out _)
  rintro e w_2 ⟨rfl, hb_2⟩
  replace hs := hs.bl hb_2
  refine hK _ _ rfl trivial ?_
  clear hK K
  refine sq ?_
  refine .mv ?_
  apply wpSq_end
  refine hK7 _ _ ?_
  refine wp_seq_k ?_
  intro K8 hK8
  refine rg [0, 1, 2] ?_
  refine sq ?_
  intro K hK
  go_big_op
  go_fit (ri_any 0 _ (by decide) (by decide))
  rintro e w_3 ⟨v_z, rfl, z, hb_3⟩
  replace hs := hs.bl hb_3
  replace z := z.rd
  obtain ⟨n_z, o_z, k_z, c_z, rfl⟩ := z.open2
  have Lz := hide (z.lenOf (zlen_i (0 : Int) (by decide) (by decide)))
  refine hK _ _ rfl trivial ?_
  clear hK K
  refine sq ?_
  refine .al hs ?_; clear hs; intro p_b2 w_4 hs n4 kb_b2
  refine sq ?_
  refine .s2 hs.g0 (fun _ => hs.u0 kb_b2) ?_; clear hs; intro w_5 hs hd5 ho5
  apply wpSq_end
  refine hK8 _ _ ?_
  refine wp_seq_k ?_
  intro K9 hK9
  refine rg [0] ?_
  refine sq ?_
  refine .mv ?_
  apply wpSq_end
  refine hK9 _ _ ?_
  refine wp_seq_k ?_
  intro K10 hK10
  refine wp_seq_k ?_
  intro K11 hK11
  refine rg [0, 1] ?_
  refine sq ?_
  refine .mv ?_
  refine sq ?_
  refine .r0 ?_
  apply wpSq_end
  refine hK11 _ _ ?_
  refine cf ?_
  refine wp_seq_k ?_
  intro K12 hK12
  refine rg [0, 1, 2, 3, 4, 5, 6, 7] ?_
  refine sq ?_
  refine .mv ?_
  refine sq ?_
  refine .r0 ?_
  refine sq ?_
  refine .r0 ?_
  refine sq ?_
  refine .mv ?_
  refine sq ?_
  refine .mv ?_
  refine sq ?_
  refine .r0 ?_
  refine sq ?_
  refine .r0 ?_
  refine sq ?_
  refine .r0 ?_
  apply wpSq_end
  refine hK12 _ _ ?_
  refine ct ?_
  refine wp_seq_k ?_
  intro K13 hK13
  refine rg [0] ?_
  refine sq ?_
  refine .mv ?_
  apply wpSq_end
  refine hK13 _ _ ?_
  refine rg [0, 1, 2] ?_
  refine sq ?_
  refine .mv ?_
  refine sq ?_
  refine .r0 ?_
  refine sq ?_
  refine .mv ?_
  apply wpSq_end
  refine hK10 _ _ ?_
  refine wp_seq_k ?_
  intro K14 hK14
  refine rg [0, 1, 2, 3, 4, 5, 6, 7] ?_
  refine sq ?_
  refine .mv ?_
  refine sq ?_
  intro K hK
  go_big_op
  go_fit (HA.out _)
  rintro e w_6 ⟨rfl, hb_6⟩
  replace hs := hs.bl hb_6
  refine hK _ _ rfl trivial ?_
  clear hK K
  refine sq ?_
  refine .mv ?_
  refine sq ?_
  refine .r0 ?_
  refine sq ?_
  refine .r0 ?_
  refine sq ?_
  refine .al hs ?_; clear hs; intro p_b3 w_7 hs n7 kb_b3
  refine sq ?_
  refine .s2 hs.g0 (fun _ => hs.u0 kb_b3) ?_; clear hs; intro w_8 hs hd8 ho8
  refine sq ?_
  refine .mv ?_
  apply wpSq_end
  refine hK14 _ _ ?_
  refine wp_seq_k ?_
  intro K15 hK15
  refine wp_seq_k ?_
  intro K16 hK16
  refine rg [0, 1] ?_
  refine sq ?_
  refine .mv ?_
  refine sq ?_
  refine .r0 ?_
  apply wpSq_end
  refine hK16 _ _ ?_
  refine ct ?_
  refine wp_seq_k ?_
  intro K17 hK17
  refine rg [0, 1, 2] ?_
  refine sq ?_
  refine .r0 ?_
  refine sq ?_
  refine .s4 hs.g2 (fun _ => hs.u2 kb_b1) ?_; clear hs; intro w_9 hs hd9 ho9
  refine sq ?_
  refine .mv ?_
  apply wpSq_end
  refine hK17 _ _ ?_
  refine wp_ret ?_
  try dsimp only [Exit.then, Exit.inBlock]
  obtain ⟨r0_0, r0_1, r0_2, r0_3⟩ := hs.g2.f4
  refine bodyPost_ret (v := (.tuple #[(.agg #[.bool false, .slice none 0 0, .bool false, .slice none 0 0]), (.int .i64 7)])) (by simp [results, Tryz.results21, go_sem, r0_0, r0_1, r0_2, r0_3]) rfl ?_
  have hb := hs.b
  exact ⟨rfl, hb⟩
set_option maxHeartbeats 4000000 in
set_option maxRecDepth 20000 in
theorem rp_k_n1 (w : World) (hsz : s.size ≤ 65536) {c : UInt8} (hp : 0 < s.size) (hc : s[s.size - 1]'(by omega) = c) (h105 : ((c.toNat : Int) != 105) = false) {J : Nat} (hJ : 0 < J) (hJ2 : J < s.size - 1) (hS : Sp (s.extract 0 (s.size - 1)) J) (hz : zok ((s.extract 0 (s.size - 1)).extract 0 J) = false) :
    Calls Tryz.prog 21 #[.string s] w fun e w' => e = .returned (.tuple #[.agg #[.bool false, .slice none 0 0, .bool false, .slice none 0 0], .int .i64 7]) ∧ Below w.heap.size w w' := by
  have hw : wrap64 ((s.size : Int) - 1) = ((s.size - 1 : Nat) : Int) := by unfold wrap64; omega
  have hs0 : ((s.size : Int) == 0) = false := by simpa using (show s.size ≠ 0 by omega)
  have hs1 : (65536 < (s.size : Int)) = False := eq_false (by omega)
  have hPs : ((s.extract 0 (s.size - 1)).extract 0 J).size ≤ 65536 := by rw [ByteArray.size_extract, ByteArray.size_extract]; omega
  have HPS := hide hPs
  have HS := hide hS
  have HZ := hide hz
  have hJp : ((0 : Int) < (J : Int)) = True := eq_true (by omega)
  have hJn : (0 < J) = True := eq_true hJ
  have hw2 : wrap64 ((J : Int) + 1) = ((J + 1 : Nat) : Int) := by unfold wrap64; omega
  clear hS hz hPs
  go_enter Tryz.func21, Tryz.ntmps21
  have hs := St.nil w
  refine wp_seq_k ?_
  intro K1 hK1
  refine rg [0, 1] ?_
  refine sq ?_
  refine .al hs ?_; clear hs; intro p_b1 w_1 hs n1 kb_b1
  refine sq ?_
  refine .mv ?_
  apply wpSq_end
  refine hK1 _ _ ?_
  refine wp_seq_k ?_
  intro K2 hK2
  refine wp_seq_k ?_
  intro K3 hK3
  refine rg [0, 1, 2] ?_
  refine sq ?_
  refine .mv ?_
  refine sq ?_
  refine .r0 ?_
  refine sq ?_
  refine .r0 ?_
  apply wpSq_end
  refine hK3 _ _ ?_
  refine cf ?_
  refine wp_skip ?_
  refine hK2 _ _ ?_
  refine wp_seq_k ?_
  intro K4 hK4
  refine wp_seq_k ?_
  intro K5 hK5
  refine rg [0, 1, 2, 3, 4, 5, 6, 7, 8, 9, 10] ?_
  refine sq ?_
  refine .mv ?_
  refine sq ?_
  refine .r0 ?_
  refine sq ?_
  refine .r0 ?_
  refine sq ?_
  refine .mv ?_
  refine sq ?_
  refine .mv ?_
  refine sq ?_
  refine .mv ?_
  refine sq ?_
  refine .r0 ?_
  refine sq ?_
  refine .r0 ?_
  refine sq ?_
  refine .r0 ?_
  refine sq ?_
  refine .r0 ?_
  refine sq ?_
  refine .r0 ?_
  apply wpSq_end
  refine hK5 _ _ ?_
  refine cf ?_
  refine wp_skip ?_
  refine hK4 _ _ ?_
  refine wp_seq_k ?_
  intro K6 hK6
  refine rg [0, 1, 2, 3, 4, 5] ?_
  refine sq ?_
  refine .mv ?_
  refine sq ?_
  refine .mv ?_
  refine sq ?_
  refine .r0 ?_
  refine sq ?_
  refine .r0 ?_
  refine sq ?_
  refine .r0 ?_
  refine sq ?_
  refine .mv ?_
  apply wpSq_end
  refine hK6 _ _ ?_
  refine wp_seq_k ?_
  intro K7 hK7
  refine rg [0, 1, 2] ?_
  refine sq ?_
  refine .mv ?_
  refine sq ?_
  intro K hK
  go_big_op
  go_fit (HS.out _)
  rintro e w_2 ⟨rfl, hb_2⟩
  replace hs := hs.bl hb_2
  refine hK _ _ rfl trivial ?_
  clear hK K
  refine sq ?_
  refine .mv ?_
  apply wpSq_end
  refine hK7 _ _ ?_
  refine wp_seq_k ?_
  intro K8 hK8
  refine rg [0, 1, 2] ?_
  refine sq ?_
  intro K hK
  go_big_op
  go_fit (ri_any 0 _ (by decide) (by decide))
  rintro e w_3 ⟨v_z, rfl, z, hb_3⟩
  replace hs := hs.bl hb_3
  replace z := z.rd
  obtain ⟨n_z, o_z, k_z, c_z, rfl⟩ := z.open2
  have Lz := hide (z.lenOf (zlen_i (0 : Int) (by decide) (by decide)))
  refine hK _ _ rfl trivial ?_
  clear hK K
  refine sq ?_
  refine .al hs ?_; clear hs; intro p_b2 w_4 hs n4 kb_b2
  refine sq ?_
  refine .s2 hs.g0 (fun _ => hs.u0 kb_b2) ?_; clear hs; intro w_5 hs hd5 ho5
  apply wpSq_end
  refine hK8 _ _ ?_
  refine wp_seq_k ?_
  intro K9 hK9
  refine rg [0] ?_
  refine sq ?_
  refine .mv ?_
  apply wpSq_end
  refine hK9 _ _ ?_
  refine wp_seq_k ?_
  intro K10 hK10
  refine wp_seq_k ?_
  intro K11 hK11
  refine rg [0, 1] ?_
  refine sq ?_
  refine .mv ?_
  refine sq ?_
  refine .r0 ?_
  apply wpSq_end
  refine hK11 _ _ ?_
  refine ct ?_
  refine wp_seq_k ?_
  intro K12 hK12
  refine wp_seq_k ?_
  intro K13 hK13
  refine rg [0, 1, 2, 3, 4] ?_
  refine sq ?_
  refine .mv ?_
  refine sq ?_
  refine .mv ?_
  refine sq ?_
  refine .r0 ?_
  refine sq ?_
  intro K hK
  go_big_op
  go_fit (ris_b ((s.extract 0 (s.size - 1)).extract 0 J) _ HPS.out)
  rintro e w_6 ⟨rfl, hb_6⟩
  replace hs := hs.bl hb_6
  rw [HZ.out]
  refine hK _ _ rfl trivial ?_
  clear hK K
  refine sq ?_
  refine .r0 ?_
  apply wpSq_end
  refine hK13 _ _ ?_
  refine ct ?_
  refine wp_seq_k ?_
  intro K14 hK14
  refine rg [0, 1, 2] ?_
  refine sq ?_
  refine .r0 ?_
  refine sq ?_
  refine .s4 hs.g1 (fun _ => hs.u1 kb_b1) ?_; clear hs; intro w_7 hs hd7 ho7
  refine sq ?_
  refine .mv ?_
  apply wpSq_end
  refine hK14 _ _ ?_
  refine wp_ret ?_
  try dsimp only [Exit.then, Exit.inBlock]
  obtain ⟨r0_0, r0_1, r0_2, r0_3⟩ := hs.g1.f4
  refine bodyPost_ret (v := (.tuple #[(.agg #[.bool false, .slice none 0 0, .bool false, .slice none 0 0]), (.int .i64 7)])) (by simp [results, Tryz.results21, go_sem, r0_0, r0_1, r0_2, r0_3]) rfl ?_
  have hb := hs.b
  exact ⟨rfl, hb⟩
set_option maxHeartbeats 4000000 in
set_option maxRecDepth 20000 in
theorem rp_k_n2 (w : World) (hsz : s.size ≤ 65536) {c : UInt8} (hp : 0 < s.size) (hc : s[s.size - 1]'(by omega) = c) (h105 : ((c.toNat : Int) != 105) = false) {J : Nat} (hJ : 0 < J) (hJ2 : J < s.size - 1) (hS : Sp (s.extract 0 (s.size - 1)) J) (hz : zok ((s.extract 0 (s.size - 1)).extract 0 J) = true) (hA : AmNo ((s.extract 0 (s.size - 1)).extract (J + 1) (s.size - 1))) :
    Calls Tryz.prog 21 #[.string s] w fun e w' => e = .returned (.tuple #[.agg #[.bool false, .slice none 0 0, .bool false, .slice none 0 0], .int .i64 7]) ∧ Below w.heap.size w w' := by
  have hw : wrap64 ((s.size : Int) - 1) = ((s.size - 1 : Nat) : Int) := by unfold wrap64; omega
  have hs0 : ((s.size : Int) == 0) = false := by simpa using (show s.size ≠ 0 by omega)
  have hs1 : (65536 < (s.size : Int)) = False := eq_false (by omega)
  have hPs : ((s.extract 0 (s.size - 1)).extract 0 J).size ≤ 65536 := by rw [ByteArray.size_extract, ByteArray.size_extract]; omega
  have HPS := hide hPs
  have HS := hide hS
  have HA := hide hA
  have HZ := hide hz
  have HL := hide (zvl_len hPs hz)
  have hJp : ((0 : Int) < (J : Int)) = True := eq_true (by omega)
  have hJn : (0 < J) = True := eq_true hJ
  have hw2 : wrap64 ((J : Int) + 1) = ((J + 1 : Nat) : Int) := by unfold wrap64; omega
  clear hS hz hPs hA
  go_enter Tryz.func21, Tryz.ntmps21
  have hs := St.nil w
  refine wp_seq_k ?_
  intro K1 hK1
  refine rg [0, 1] ?_
  refine sq ?_
  refine .al hs ?_; clear hs; intro p_b1 w_1 hs n1 kb_b1
  refine sq ?_
  refine .mv ?_
  apply wpSq_end
  refine hK1 _ _ ?_
  refine wp_seq_k ?_
  intro K2 hK2
  refine wp_seq_k ?_
  intro K3 hK3
  refine rg [0, 1, 2] ?_
  refine sq ?_
  refine .mv ?_
  refine sq ?_
  refine .r0 ?_
  refine sq ?_
  refine .r0 ?_
  apply wpSq_end
  refine hK3 _ _ ?_
  refine cf ?_
  refine wp_skip ?_
  refine hK2 _ _ ?_
  refine wp_seq_k ?_
  intro K4 hK4
  refine wp_seq_k ?_
  intro K5 hK5
  refine rg [0, 1, 2, 3, 4, 5, 6, 7, 8, 9, 10] ?_
  refine sq ?_
  refine .mv ?_
  refine sq ?_
  refine .r0 ?_
  refine sq ?_
  refine .r0 ?_
  refine sq ?_
  refine .mv ?_
  refine sq ?_
  refine .mv ?_
  refine sq ?_
  refine .mv ?_
  refine sq ?_
  refine .r0 ?_
  refine sq ?_
  refine .r0 ?_
  refine sq ?_
  refine .r0 ?_
  refine sq ?_
  refine .r0 ?_
  refine sq ?_
  refine .r0 ?_
  apply wpSq_end
  refine hK5 _ _ ?_
  refine cf ?_
  refine wp_skip ?_
  refine hK4 _ _ ?_
  refine wp_seq_k ?_
  intro K6 hK6
  refine rg [0, 1, 2, 3, 4, 5] ?_
  refine sq ?_
  refine .mv ?_
  refine sq ?_
  refine .mv ?_
  refine sq ?_
  refine .r0 ?_
  refine sq ?_
  refine .r0 ?_
  refine sq ?_
  refine .r0 ?_
  refine sq ?_
  refine .mv ?_
  apply wpSq_end
  refine hK6 _ _ ?_
  refine wp_seq_k ?_
  intro K7 hK7
  refine rg [0, 1, 2] ?_
  refine sq ?_
  refine .mv ?_
  refine sq ?_
  intro K hK
  go_big_op
  go_fit (HS.out _)
  rintro e w_2 ⟨rfl, hb_2⟩
  replace hs := hs.bl hb_2
  refine hK _ _ rfl trivial ?_
  clear hK K
  refine sq ?_
  refine .mv ?_
  apply wpSq_end
  refine hK7 _ _ ?_
  refine wp_seq_k ?_
  intro K8 hK8
  refine rg [0, 1, 2] ?_
  refine sq ?_
  intro K hK
  go_big_op
  go_fit (ri_any 0 _ (by decide) (by decide))
  rintro e w_3 ⟨v_z, rfl, z, hb_3⟩
  replace hs := hs.bl hb_3
  replace z := z.rd
  obtain ⟨n_z, o_z, k_z, c_z, rfl⟩ := z.open2
  have Lz := hide (z.lenOf (zlen_i (0 : Int) (by decide) (by decide)))
  refine hK _ _ rfl trivial ?_
  clear hK K
  refine sq ?_
  refine .al hs ?_; clear hs; intro p_b2 w_4 hs n4 kb_b2
  refine sq ?_
  refine .s2 hs.g0 (fun _ => hs.u0 kb_b2) ?_; clear hs; intro w_5 hs hd5 ho5
  apply wpSq_end
  refine hK8 _ _ ?_
  refine wp_seq_k ?_
  intro K9 hK9
  refine rg [0] ?_
  refine sq ?_
  refine .mv ?_
  apply wpSq_end
  refine hK9 _ _ ?_
  refine wp_seq_k ?_
  intro K10 hK10
  refine wp_seq_k ?_
  intro K11 hK11
  refine rg [0, 1] ?_
  refine sq ?_
  refine .mv ?_
  refine sq ?_
  refine .r0 ?_
  apply wpSq_end
  refine hK11 _ _ ?_
  refine ct ?_
  refine wp_seq_k ?_
  intro K12 hK12
  refine wp_seq_k ?_
  intro K13 hK13
  refine rg [0, 1, 2, 3, 4] ?_
  refine sq ?_
  refine .mv ?_
  refine sq ?_
  refine .mv ?_
  refine sq ?_
  refine .r0 ?_
  refine sq ?_
  intro K hK
  go_big_op
  go_fit (ris_b ((s.extract 0 (s.size - 1)).extract 0 J) _ HPS.out)
  rintro e w_6 ⟨rfl, hb_6⟩
  replace hs := hs.bl hb_6
  rw [HZ.out]
  refine hK _ _ rfl trivial ?_
  clear hK K
  refine sq ?_
  refine .r0 ?_
  apply wpSq_end
  refine hK13 _ _ ?_
  refine cf ?_
  refine wp_skip ?_
  refine hK12 _ _ ?_
  refine wp_seq_k ?_
  intro K14 hK14
  refine rg [0, 1, 2, 3, 4] ?_
  refine sq ?_
  refine .mv ?_
  refine sq ?_
  refine .mv ?_
  refine sq ?_
  refine .r0 ?_
  refine sq ?_
  intro K hK
  go_big_op
  go_fit (rzparse_ok ((s.extract 0 (s.size - 1)).extract 0 J) _ HPS.out HZ.out)
  rintro e w_7 ⟨v_r, rfl, r, hb_7⟩
  replace hs := hs.bl hb_7
  obtain ⟨n_r, o_r, k_r, c_r, rfl⟩ := r.open2
  have Lr := hide (r.lenOf (HL.out))
  refine hK _ _ rfl trivial ?_
  clear hK K
  refine sq ?_
  refine .s2 hs.g0 (fun _ => hs.u0 kb_b2) ?_; clear hs; intro w_8 hs hd8 ho8
  apply wpSq_end
  refine hK14 _ _ ?_
  refine wp_seq_k ?_
  intro K15 hK15
  refine rg [0, 1, 2, 3, 4] ?_
  refine sq ?_
  refine .mv ?_
  refine sq ?_
  refine .mv ?_
  refine sq ?_
  refine .r0 ?_
  refine sq ?_
  refine .r0 ?_
  refine sq ?_
  refine .mv ?_
  apply wpSq_end
  refine hK15 _ _ ?_
  refine rg [0, 1, 2, 3, 4] ?_
  refine sq ?_
  refine .mv ?_
  refine sq ?_
  refine .mv ?_
  refine sq ?_
  refine .r0 ?_
  refine sq ?_
  refine .r0 ?_
  refine sq ?_
  refine .mv ?_
  apply wpSq_end
  refine hK10 _ _ ?_
  refine wp_seq_k ?_
  intro K16 hK16
  refine rg [0, 1, 2, 3, 4, 5, 6, 7] ?_
  refine sq ?_
  refine .mv ?_
  refine sq ?_
  intro K hK
  go_big_op
  go_fit (HA.out _)
  rintro e w_9 ⟨rfl, hb_9⟩
  replace hs := hs.bl hb_9
  refine hK _ _ rfl trivial ?_
  clear hK K
  refine sq ?_
  refine .mv ?_
  refine sq ?_
  refine .r0 ?_
  refine sq ?_
  refine .r0 ?_
  refine sq ?_
  refine .al hs ?_; clear hs; intro p_b3 w_10 hs n10 kb_b3
  refine sq ?_
  refine .s2 hs.g0 (fun _ => hs.u0 kb_b3) ?_; clear hs; intro w_11 hs hd11 ho11
  refine sq ?_
  refine .mv ?_
  apply wpSq_end
  refine hK16 _ _ ?_
  refine wp_seq_k ?_
  intro K17 hK17
  refine wp_seq_k ?_
  intro K18 hK18
  refine rg [0, 1] ?_
  refine sq ?_
  refine .mv ?_
  refine sq ?_
  refine .r0 ?_
  apply wpSq_end
  refine hK18 _ _ ?_
  refine ct ?_
  refine wp_seq_k ?_
  intro K19 hK19
  refine rg [0, 1, 2] ?_
  refine sq ?_
  refine .r0 ?_
  refine sq ?_
  refine .s4 hs.g2 (fun _ => hs.u2 kb_b1) ?_; clear hs; intro w_12 hs hd12 ho12
  refine sq ?_
  refine .mv ?_
  apply wpSq_end
  refine hK19 _ _ ?_
  refine wp_ret ?_
  try dsimp only [Exit.then, Exit.inBlock]
  obtain ⟨r0_0, r0_1, r0_2, r0_3⟩ := hs.g2.f4
  refine bodyPost_ret (v := (.tuple #[(.agg #[.bool false, .slice none 0 0, .bool false, .slice none 0 0]), (.int .i64 7)])) (by simp [results, Tryz.results21, go_sem, r0_0, r0_1, r0_2, r0_3]) rfl ?_
  have hb := hs.b
  exact ⟨rfl, hb⟩
set_option maxHeartbeats 4000000 in
set_option maxRecDepth 20000 in
theorem rp_k_p (w : World) (hsz : s.size ≤ 65536) {c : UInt8} (hp : 0 < s.size) (hc : s[s.size - 1]'(by omega) = c) (h105 : ((c.toNat : Int) != 105) = false) {n : Int} {J : Nat} (hJ : 0 < J) (hJ2 : J < s.size - 1) (h45 : ((((s.extract 0 (s.size - 1))[J]'(by rw [ByteArray.size_extract]; omega)).toNat : Int) == 45) = false) (hS : Sp (s.extract 0 (s.size - 1)) J) (hz : zok ((s.extract 0 (s.size - 1)).extract 0 J) = true) (hA : Am ((s.extract 0 (s.size - 1)).extract (J + 1) (s.size - 1)) n) :
    Calls Tryz.prog 21 #[.string s] w fun e w' => ∃ r, e = .returned (.tuple #[r, .int .i64 0]) ∧ PC w' r (zvl ((s.extract 0 (s.size - 1)).extract 0 J)) (n) ∧ Below w.heap.size w w' := by
  have hw : wrap64 ((s.size : Int) - 1) = ((s.size - 1 : Nat) : Int) := by unfold wrap64; omega
  have hs0 : ((s.size : Int) == 0) = false := by simpa using (show s.size ≠ 0 by omega)
  have hs1 : (65536 < (s.size : Int)) = False := eq_false (by omega)
  have hPs : ((s.extract 0 (s.size - 1)).extract 0 J).size ≤ 65536 := by rw [ByteArray.size_extract, ByteArray.size_extract]; omega
  have HPS := hide hPs
  have HS := hide hS
  have HA := hide hA
  have HZ := hide hz
  have HL := hide (zvl_len hPs hz)
  have hJp : ((0 : Int) < (J : Int)) = True := eq_true (by omega)
  have hJn : (0 < J) = True := eq_true hJ
  have hw2 : wrap64 ((J : Int) + 1) = ((J + 1 : Nat) : Int) := by unfold wrap64; omega
  clear hS hz hPs hA
  go_enter Tryz.func21, Tryz.ntmps21
  have hs := St.nil w
  refine wp_seq_k ?_
  intro K1 hK1
  refine rg [0, 1] ?_
  refine sq ?_
  refine .al hs ?_; clear hs; intro p_b1 w_1 hs n1 kb_b1
  refine sq ?_
  refine .mv ?_
  apply wpSq_end
  refine hK1 _ _ ?_
  refine wp_seq_k ?_
  intro K2 hK2
  refine wp_seq_k ?_
  intro K3 hK3
  refine rg [0, 1, 2] ?_
  refine sq ?_
  refine .mv ?_
  refine sq ?_
  refine .r0 ?_
  refine sq ?_
  refine .r0 ?_
  apply wpSq_end
  refine hK3 _ _ ?_
  refine cf ?_
  refine wp_skip ?_
  refine hK2 _ _ ?_
  refine wp_seq_k ?_
  intro K4 hK4
  refine wp_seq_k ?_
  intro K5 hK5
  refine rg [0, 1, 2, 3, 4, 5, 6, 7, 8, 9, 10] ?_
  refine sq ?_
  refine .mv ?_
  refine sq ?_
  refine .r0 ?_
  refine sq ?_
  refine .r0 ?_
  refine sq ?_
  refine .mv ?_
  refine sq ?_
  refine .mv ?_
  refine sq ?_
  refine .mv ?_
  refine sq ?_
  refine .r0 ?_
  refine sq ?_
  refine .r0 ?_
  refine sq ?_
  refine .r0 ?_
  refine sq ?_
  refine .r0 ?_
  refine sq ?_
  refine .r0 ?_
  apply wpSq_end
  refine hK5 _ _ ?_
  refine cf ?_
  refine wp_skip ?_
  refine hK4 _ _ ?_
  refine wp_seq_k ?_
  intro K6 hK6
  refine rg [0, 1, 2, 3, 4, 5] ?_
  refine sq ?_
  refine .mv ?_
  refine sq ?_
  refine .mv ?_
  refine sq ?_
  refine .r0 ?_
  refine sq ?_
  refine .r0 ?_
  refine sq ?_
  refine .r0 ?_
  refine sq ?_
  refine .mv ?_
  apply wpSq_end
  refine hK6 _ _ ?_
  refine wp_seq_k ?_
  intro K7 hK7
  refine rg [0, 1, 2] ?_
  refine sq ?_
  refine .mv ?_
  refine sq ?_
  intro K hK
  go_big_op
  go_fit (HS.out _)
  rintro e w_2 ⟨rfl, hb_2⟩
  replace hs := hs.bl hb_2
  refine hK _ _ rfl trivial ?_
  clear hK K
  refine sq ?_
  refine .mv ?_
  apply wpSq_end
  refine hK7 _ _ ?_
  refine wp_seq_k ?_
  intro K8 hK8
  refine rg [0, 1, 2] ?_
  refine sq ?_
  intro K hK
  go_big_op
  go_fit (ri_any 0 _ (by decide) (by decide))
  rintro e w_3 ⟨v_z, rfl, z, hb_3⟩
  replace hs := hs.bl hb_3
  replace z := z.rd
  obtain ⟨n_z, o_z, k_z, c_z, rfl⟩ := z.open2
  have Lz := hide (z.lenOf (zlen_i (0 : Int) (by decide) (by decide)))
  refine hK _ _ rfl trivial ?_
  clear hK K
  refine sq ?_
  refine .al hs ?_; clear hs; intro p_b2 w_4 hs n4 kb_b2
  refine sq ?_
  refine .s2 hs.g0 (fun _ => hs.u0 kb_b2) ?_; clear hs; intro w_5 hs hd5 ho5
  apply wpSq_end
  refine hK8 _ _ ?_
  refine wp_seq_k ?_
  intro K9 hK9
  refine rg [0] ?_
  refine sq ?_
  refine .mv ?_
  apply wpSq_end
  refine hK9 _ _ ?_
  refine wp_seq_k ?_
  intro K10 hK10
  refine wp_seq_k ?_
  intro K11 hK11
  refine rg [0, 1] ?_
  refine sq ?_
  refine .mv ?_
  refine sq ?_
  refine .r0 ?_
  apply wpSq_end
  refine hK11 _ _ ?_
  refine ct ?_
  refine wp_seq_k ?_
  intro K12 hK12
  refine wp_seq_k ?_
  intro K13 hK13
  refine rg [0, 1, 2, 3, 4] ?_
  refine sq ?_
  refine .mv ?_
  refine sq ?_
  refine .mv ?_
  refine sq ?_
  refine .r0 ?_
  refine sq ?_
  intro K hK
  go_big_op
  go_fit (ris_b ((s.extract 0 (s.size - 1)).extract 0 J) _ HPS.out)
  rintro e w_6 ⟨rfl, hb_6⟩
  replace hs := hs.bl hb_6
  rw [HZ.out]
  refine hK _ _ rfl trivial ?_
  clear hK K
  refine sq ?_
  refine .r0 ?_
  apply wpSq_end
  refine hK13 _ _ ?_
  refine cf ?_
  refine wp_skip ?_
  refine hK12 _ _ ?_
  refine wp_seq_k ?_
  intro K14 hK14
  refine rg [0, 1, 2, 3, 4] ?_
  refine sq ?_
  refine .mv ?_
  refine sq ?_
  refine .mv ?_
  refine sq ?_
  refine .r0 ?_
  refine sq ?_
  intro K hK
  go_big_op
  go_fit (rzparse_ok ((s.extract 0 (s.size - 1)).extract 0 J) _ HPS.out HZ.out)
  rintro e w_7 ⟨v_r, rfl, r, hb_7⟩
  replace hs := hs.bl hb_7
  obtain ⟨n_r, o_r, k_r, c_r, rfl⟩ := r.open2
  have Lr := hide (r.lenOf (HL.out))
  refine hK _ _ rfl trivial ?_
  clear hK K
  refine sq ?_
  refine .s2 hs.g0 (fun _ => hs.u0 kb_b2) ?_; clear hs; intro w_8 hs hd8 ho8
  apply wpSq_end
  refine hK14 _ _ ?_
  refine wp_seq_k ?_
  intro K15 hK15
  refine rg [0, 1, 2, 3, 4] ?_
  refine sq ?_
  refine .mv ?_
  refine sq ?_
  refine .mv ?_
  refine sq ?_
  refine .r0 ?_
  refine sq ?_
  refine .r0 ?_
  refine sq ?_
  refine .mv ?_
  apply wpSq_end
  refine hK15 _ _ ?_
  refine rg [0, 1, 2, 3, 4] ?_
  refine sq ?_
  refine .mv ?_
  refine sq ?_
  refine .mv ?_
  refine sq ?_
  refine .r0 ?_
  refine sq ?_
  refine .r0 ?_
  refine sq ?_
  refine .mv ?_
  apply wpSq_end
  refine hK10 _ _ ?_
  refine wp_seq_k ?_
  intro K16 hK16
  refine rg [0, 1, 2, 3, 4, 5, 6, 7] ?_
  refine sq ?_
  refine .mv ?_
  refine sq ?_
  intro K hK
  go_big_op
  go_fit (HA.out.2 _)
  rintro e w_9 ⟨v_a, rfl, a, hb_9⟩
  replace hs := hs.bl hb_9
  obtain ⟨n_a, o_a, k_a, c_a, rfl⟩ := a.open2
  have La := hide (a.lenOf (HA.out.1))
  refine hK _ _ rfl trivial ?_
  clear hK K
  refine sq ?_
  refine .mv ?_
  refine sq ?_
  refine .r0 ?_
  refine sq ?_
  refine .r0 ?_
  refine sq ?_
  refine .al hs ?_; clear hs; intro p_b3 w_10 hs n10 kb_b3
  refine sq ?_
  refine .s2 hs.g0 (fun _ => hs.u0 kb_b3) ?_; clear hs; intro w_11 hs hd11 ho11
  refine sq ?_
  refine .mv ?_
  apply wpSq_end
  refine hK16 _ _ ?_
  refine wp_seq_k ?_
  intro K17 hK17
  refine wp_seq_k ?_
  intro K18 hK18
  refine rg [0, 1] ?_
  refine sq ?_
  refine .mv ?_
  refine sq ?_
  refine .r0 ?_
  apply wpSq_end
  refine hK18 _ _ ?_
  refine cf ?_
  refine wp_skip ?_
  refine hK17 _ _ ?_
  refine wp_seq_k ?_
  intro K19 hK19
  refine wp_seq_k ?_
  intro K20 hK20
  refine rg [0] ?_
  refine sq ?_
  refine .mv ?_
  apply wpSq_end
  refine hK20 _ _ ?_
  refine cf ?_
  refine wp_skip ?_
  refine hK19 _ _ ?_
  refine wp_seq_k ?_
  intro K21 hK21
  refine rg [0, 1, 2, 3, 4] ?_
  refine sq ?_
  refine .r2 hs.g1.f2 ?_
  refine sq ?_
  refine .r2 hs.g0.f2 ?_
  refine sq ?_
  refine .r0 ?_
  refine sq ?_
  refine .s4 hs.g2 (fun _ => hs.u2 kb_b1) ?_; clear hs; intro w_12 hs hd12 ho12
  refine sq ?_
  refine .mv ?_
  apply wpSq_end
  refine hK21 _ _ ?_
  refine wp_ret ?_
  try dsimp only [Exit.then, Exit.inBlock]
  obtain ⟨r0_0, r0_1, r0_2, r0_3⟩ := hs.g2.f4
  refine bodyPost_ret (v := (.tuple #[(.agg #[.bool n_r, .slice o_r k_r c_r, .bool n_a, .slice o_a k_a c_a]), (.int .i64 0)])) (by simp [results, Tryz.results21, go_sem, r0_0, r0_1, r0_2, r0_3]) rfl ?_
  have k7_12 := ((((ko hd8 ho8).b hb_9).b n10).o hd11 ho11).o hd12 ho12
  replace r := r.k k7_12
  have k9_12 := ((kb n10).o hd11 ho11).o hd12 ho12
  replace a := a.k k9_12
  exact ⟨_, rfl, .mk' r a, hs.b⟩
set_option maxHeartbeats 4000000 in
set_option maxRecDepth 20000 in
theorem rp_k_m (w : World) (hsz : s.size ≤ 65536) {c : UInt8} (hp : 0 < s.size) (hc : s[s.size - 1]'(by omega) = c) (h105 : ((c.toNat : Int) != 105) = false) {n : Int} {J : Nat} (hJ : 0 < J) (hJ2 : J < s.size - 1) (h45 : ((((s.extract 0 (s.size - 1))[J]'(by rw [ByteArray.size_extract]; omega)).toNat : Int) == 45) = true) (hS : Sp (s.extract 0 (s.size - 1)) J) (hz : zok ((s.extract 0 (s.size - 1)).extract 0 J) = true) (hA : Am ((s.extract 0 (s.size - 1)).extract (J + 1) (s.size - 1)) n) :
    Calls Tryz.prog 21 #[.string s] w fun e w' => ∃ r, e = .returned (.tuple #[r, .int .i64 0]) ∧ PC w' r (zvl ((s.extract 0 (s.size - 1)).extract 0 J)) (-n) ∧ Below w.heap.size w w' := by
  have hw : wrap64 ((s.size : Int) - 1) = ((s.size - 1 : Nat) : Int) := by unfold wrap64; omega
  have hs0 : ((s.size : Int) == 0) = false := by simpa using (show s.size ≠ 0 by omega)
  have hs1 : (65536 < (s.size : Int)) = False := eq_false (by omega)
  have hPs : ((s.extract 0 (s.size - 1)).extract 0 J).size ≤ 65536 := by rw [ByteArray.size_extract, ByteArray.size_extract]; omega
  have HPS := hide hPs
  have HS := hide hS
  have HA := hide hA
  have HNL := hide (show (dig (-n).natAbs).length ≤ 8192 from Nat.le_trans (Nat.le_of_eq (by rw [Int.natAbs_neg])) hA.1)
  have HZ := hide hz
  have HL := hide (zvl_len hPs hz)
  have hJp : ((0 : Int) < (J : Int)) = True := eq_true (by omega)
  have hJn : (0 < J) = True := eq_true hJ
  have hw2 : wrap64 ((J : Int) + 1) = ((J + 1 : Nat) : Int) := by unfold wrap64; omega
  clear hS hz hPs hA
  go_enter Tryz.func21, Tryz.ntmps21
  have hs := St.nil w
  refine wp_seq_k ?_
  intro K1 hK1
  refine rg [0, 1] ?_
  refine sq ?_
  refine .al hs ?_; clear hs; intro p_b1 w_1 hs n1 kb_b1
  refine sq ?_
  refine .mv ?_
  apply wpSq_end
  refine hK1 _ _ ?_
  refine wp_seq_k ?_
  intro K2 hK2
  refine wp_seq_k ?_
  intro K3 hK3
  refine rg [0, 1, 2] ?_
  refine sq ?_
  refine .mv ?_
  refine sq ?_
  refine .r0 ?_
  refine sq ?_
  refine .r0 ?_
  apply wpSq_end
  refine hK3 _ _ ?_
  refine cf ?_
  refine wp_skip ?_
  refine hK2 _ _ ?_
  refine wp_seq_k ?_
  intro K4 hK4
  refine wp_seq_k ?_
  intro K5 hK5
  refine rg [0, 1, 2, 3, 4, 5, 6, 7, 8, 9, 10] ?_
  refine sq ?_
  refine .mv ?_
  refine sq ?_
  refine .r0 ?_
  refine sq ?_
  refine .r0 ?_
  refine sq ?_
  refine .mv ?_
  refine sq ?_
  refine .mv ?_
  refine sq ?_
  refine .mv ?_
  refine sq ?_
  refine .r0 ?_
  refine sq ?_
  refine .r0 ?_
  refine sq ?_
  refine .r0 ?_
  refine sq ?_
  refine .r0 ?_
  refine sq ?_
  refine .r0 ?_
  apply wpSq_end
  refine hK5 _ _ ?_
  refine cf ?_
  refine wp_skip ?_
  refine hK4 _ _ ?_
  refine wp_seq_k ?_
  intro K6 hK6
  refine rg [0, 1, 2, 3, 4, 5] ?_
  refine sq ?_
  refine .mv ?_
  refine sq ?_
  refine .mv ?_
  refine sq ?_
  refine .r0 ?_
  refine sq ?_
  refine .r0 ?_
  refine sq ?_
  refine .r0 ?_
  refine sq ?_
  refine .mv ?_
  apply wpSq_end
  refine hK6 _ _ ?_
  refine wp_seq_k ?_
  intro K7 hK7
  refine rg [0, 1, 2] ?_
  refine sq ?_
  refine .mv ?_
  refine sq ?_
  intro K hK
  go_big_op
  go_fit (HS.out _)
  rintro e w_2 ⟨rfl, hb_2⟩
  replace hs := hs.bl hb_2
  refine hK _ _ rfl trivial ?_
  clear hK K
  refine sq ?_
  refine .mv ?_
  apply wpSq_end
  refine hK7 _ _ ?_
  refine wp_seq_k ?_
  intro K8 hK8
  refine rg [0, 1, 2] ?_
  refine sq ?_
  intro K hK
  go_big_op
  go_fit (ri_any 0 _ (by decide) (by decide))
  rintro e w_3 ⟨v_z, rfl, z, hb_3⟩
  replace hs := hs.bl hb_3
  replace z := z.rd
  obtain ⟨n_z, o_z, k_z, c_z, rfl⟩ := z.open2
  have Lz := hide (z.lenOf (zlen_i (0 : Int) (by decide) (by decide)))
  refine hK _ _ rfl trivial ?_
  clear hK K
  refine sq ?_
  refine .al hs ?_; clear hs; intro p_b2 w_4 hs n4 kb_b2
  refine sq ?_
  refine .s2 hs.g0 (fun _ => hs.u0 kb_b2) ?_; clear hs; intro w_5 hs hd5 ho5
  apply wpSq_end
  refine hK8 _ _ ?_
  refine wp_seq_k ?_
  intro K9 hK9
  refine rg [0] ?_
  refine sq ?_
  refine .mv ?_
  apply wpSq_end
  refine hK9 _ _ ?_
  refine wp_seq_k ?_
  intro K10 hK10
  refine wp_seq_k ?_
  intro K11 hK11
  refine rg [0, 1] ?_
  refine sq ?_
  refine .mv ?_
  refine sq ?_
  refine .r0 ?_
  apply wpSq_end
  refine hK11 _ _ ?_
  refine ct ?_
  refine wp_seq_k ?_
  intro K12 hK12
  refine wp_seq_k ?_
  intro K13 hK13
  refine rg [0, 1, 2, 3, 4] ?_
  refine sq ?_
  refine .mv ?_
  refine sq ?_
  refine .mv ?_
  refine sq ?_
  refine .r0 ?_
  refine sq ?_
  intro K hK
  go_big_op
  go_fit (ris_b ((s.extract 0 (s.size - 1)).extract 0 J) _ HPS.out)
  rintro e w_6 ⟨rfl, hb_6⟩
  replace hs := hs.bl hb_6
  rw [HZ.out]
  refine hK _ _ rfl trivial ?_
  clear hK K
  refine sq ?_
  refine .r0 ?_
  apply wpSq_end
  refine hK13 _ _ ?_
  refine cf ?_
  refine wp_skip ?_
  refine hK12 _ _ ?_
  refine wp_seq_k ?_
  intro K14 hK14
  refine rg [0, 1, 2, 3, 4] ?_
  refine sq ?_
  refine .mv ?_
  refine sq ?_
  refine .mv ?_
  refine sq ?_
  refine .r0 ?_
  refine sq ?_
  intro K hK
  go_big_op
  go_fit (rzparse_ok ((s.extract 0 (s.size - 1)).extract 0 J) _ HPS.out HZ.out)
  rintro e w_7 ⟨v_r, rfl, r, hb_7⟩
  replace hs := hs.bl hb_7
  obtain ⟨n_r, o_r, k_r, c_r, rfl⟩ := r.open2
  have Lr := hide (r.lenOf (HL.out))
  refine hK _ _ rfl trivial ?_
  clear hK K
  refine sq ?_
  refine .s2 hs.g0 (fun _ => hs.u0 kb_b2) ?_; clear hs; intro w_8 hs hd8 ho8
  apply wpSq_end
  refine hK14 _ _ ?_
  refine wp_seq_k ?_
  intro K15 hK15
  refine rg [0, 1, 2, 3, 4] ?_
  refine sq ?_
  refine .mv ?_
  refine sq ?_
  refine .mv ?_
  refine sq ?_
  refine .r0 ?_
  refine sq ?_
  refine .r0 ?_
  refine sq ?_
  refine .mv ?_
  apply wpSq_end
  refine hK15 _ _ ?_
  refine rg [0, 1, 2, 3, 4] ?_
  refine sq ?_
  refine .mv ?_
  refine sq ?_
  refine .mv ?_
  refine sq ?_
  refine .r0 ?_
  refine sq ?_
  refine .r0 ?_
  refine sq ?_
  refine .mv ?_
  apply wpSq_end
  refine hK10 _ _ ?_
  refine wp_seq_k ?_
  intro K16 hK16
  refine rg [0, 1, 2, 3, 4, 5, 6, 7] ?_
  refine sq ?_
  refine .mv ?_
  refine sq ?_
  intro K hK
  go_big_op
  go_fit (HA.out.2 _)
  rintro e w_9 ⟨v_a, rfl, a, hb_9⟩
  replace hs := hs.bl hb_9
  obtain ⟨n_a, o_a, k_a, c_a, rfl⟩ := a.open2
  have La := hide (a.lenOf (HA.out.1))
  refine hK _ _ rfl trivial ?_
  clear hK K
  refine sq ?_
  refine .mv ?_
  refine sq ?_
  refine .r0 ?_
  refine sq ?_
  refine .r0 ?_
  refine sq ?_
  refine .al hs ?_; clear hs; intro p_b3 w_10 hs n10 kb_b3
  refine sq ?_
  refine .s2 hs.g0 (fun _ => hs.u0 kb_b3) ?_; clear hs; intro w_11 hs hd11 ho11
  refine sq ?_
  refine .mv ?_
  apply wpSq_end
  refine hK16 _ _ ?_
  refine wp_seq_k ?_
  intro K17 hK17
  refine wp_seq_k ?_
  intro K18 hK18
  refine rg [0, 1] ?_
  refine sq ?_
  refine .mv ?_
  refine sq ?_
  refine .r0 ?_
  apply wpSq_end
  refine hK18 _ _ ?_
  refine cf ?_
  refine wp_skip ?_
  refine hK17 _ _ ?_
  refine wp_seq_k ?_
  intro K19 hK19
  refine wp_seq_k ?_
  intro K20 hK20
  refine rg [0] ?_
  refine sq ?_
  refine .mv ?_
  apply wpSq_end
  refine hK20 _ _ ?_
  refine ct ?_
  refine rg [0, 1, 2] ?_
  refine sq ?_
  refine .r2 hs.g0.f2 ?_
  refine sq ?_
  intro K hK
  have k9_11 := (kb n10).o hd11 ho11
  replace a := a.k k9_11
  go_big_op
  go_fit (rneg_any (a.zn La.out) (by omega))
  rintro e w_12 ⟨v_b, rfl, b, hb_12⟩
  replace hs := hs.bl hb_12
  replace b := b.rd
  obtain ⟨n_b, o_b, k_b, c_b, rfl⟩ := b.open2
  have Lb := hide (b.lenOf (HNL.out))
  refine hK _ _ rfl trivial ?_
  clear hK K
  refine sq ?_
  refine .s2 hs.g0 (fun _ => hs.u0 kb_b3) ?_; clear hs; intro w_13 hs hd13 ho13
  apply wpSq_end
  refine hK19 _ _ ?_
  refine wp_seq_k ?_
  intro K21 hK21
  refine rg [0, 1, 2, 3, 4] ?_
  refine sq ?_
  refine .r2 hs.g1.f2 ?_
  refine sq ?_
  refine .r2 hs.g0.f2 ?_
  refine sq ?_
  refine .r0 ?_
  refine sq ?_
  refine .s4 hs.g2 (fun _ => hs.u2 kb_b1) ?_; clear hs; intro w_14 hs hd14 ho14
  refine sq ?_
  refine .mv ?_
  apply wpSq_end
  refine hK21 _ _ ?_
  refine wp_ret ?_
  try dsimp only [Exit.then, Exit.inBlock]
  obtain ⟨r0_0, r0_1, r0_2, r0_3⟩ := hs.g2.f4
  refine bodyPost_ret (v := (.tuple #[(.agg #[.bool n_r, .slice o_r k_r c_r, .bool n_b, .slice o_b k_b c_b]), (.int .i64 0)])) (by simp [results, Tryz.results21, go_sem, r0_0, r0_1, r0_2, r0_3]) rfl ?_
  have k7_14 := ((((((ko hd8 ho8).b hb_9).b n10).o hd11 ho11).b hb_12).o hd13 ho13).o hd14 ho14
  replace r := r.k k7_14
  have k12_14 := (ko hd13 ho13).o hd14 ho14
  replace b := b.k k12_14
  exact ⟨_, rfl, .mk' r b, hs.b⟩
end
theorem one_bit {n : Nat} : 1 < bitsN n ↔ 1 < n := by
  have h1 := bitsN_lt n
  constructor
  · intro h
    have h2 := bitsN_le (n := n) (by intro h0; rw [h0] at h; simp [bitsN] at h)
    have h3 : 2 ^ 1 ≤ 2 ^ (bitsN n - 1) := Nat.pow_le_pow_right (by omega) (by omega)
    omega
  · intro h
    rcases Nat.lt_or_ge 1 (bitsN n) with h2 | h2
    · exact h2
    · have h3 : 2 ^ bitsN n ≤ 2 ^ 1 := Nat.pow_le_pow_right (by omega) h2
      omega
theorem dec_len_pos (n : Nat) : 0 < (Lib.decDigits n).length := (dec_facts n).2.2.1
theorem zlist_len (z : Int) : (zlist z).length = (if z < 0 then 1 else 0) + (Lib.decDigits z.natAbs).length := by
  unfold zlist
  split
  · simp only [List.length_cons]; omega
  · omega
theorem zok_l {s : ByteArray} {l : List UInt8} (h : s.data.toList = l) : zok s = zokL l := by
  unfold zok
  rw [minusB_list h]
  match l with
  | [] => rw [if_neg (by simp), h]; rfl
  | c :: t =>
    by_cases h45 : c = 45
    · subst h45
      rw [if_pos (by simp), ext_one h]
      show digitsB t = (if (45 : UInt8) = 45 then digitsB t else digitsB (45 :: t))
      rw [if_pos rfl]
    · rw [if_neg (by simpa using h45), h]
      show digitsB (c :: t) = (if c = 45 then digitsB t else digitsB (c :: t))
      rw [if_neg h45]
theorem zvl_l {s : ByteArray} {l : List UInt8} (h : s.data.toList = l) : zvl s = zvN l := by
  unfold zvl zvN
  rw [minusB_list h]
  match l with
  | [] => rw [if_neg (by simp), if_neg (by simp), h]
  | c :: t =>
    by_cases h45 : c = 45
    · subst h45
      rw [if_pos (by simp), if_pos (by simp), ext_one h]; rfl
    · rw [if_neg (by simpa using h45), if_neg (by simpa using h45), h]
theorem ofL_apd (a b : List UInt8) : (ofL a ++ ofL b).data.toList = a ++ b := by rw [ofL_app, ofL_list]
theorem ofL_ne {l : List UInt8} (h : l ≠ []) : ((ofL l).toList == []) = false := by
  rw [ofL_toList, beq_eq_false_iff_ne]; exact h
theorem ofL_eq (l m : List UInt8) : ((ofL l).toList == m) = (l == m) := by rw [ofL_toList]
/-- What Parse tells. -/
def PgC (s : ByteArray) (o : Option (Int × Int)) : Prop := ∀ w : World, match o with
  | none => Calls Tryz.prog 20 #[.string s] w fun e w' => e = .returned (.tuple #[.agg #[.bool false, .slice none 0 0, .bool false, .slice none 0 0], .int .i64 7]) ∧ Below w.heap.size w w'
  | some (x, y) => Calls Tryz.prog 20 #[.string s] w fun e w' => ∃ r, e = .returned (.tuple #[r, .int .i64 0]) ∧ PC w' r x y ∧ Below w.heap.size w w'
def RfC (s : ByteArray) (o : Option (Int × Int)) : Prop := ∀ w : World, match o with
  | none => Calls Tryz.prog 21 #[.string s] w fun e w' => e = .returned (.tuple #[.agg #[.bool false, .slice none 0 0, .bool false, .slice none 0 0], .int .i64 7]) ∧ Below w.heap.size w w'
  | some (x, y) => Calls Tryz.prog 21 #[.string s] w fun e w' => ∃ r, e = .returned (.tuple #[r, .int .i64 0]) ∧ PC w' r x y ∧ Below w.heap.size w w'
section
variable {l sg d r : List UInt8}
theorem cut_l (hs : l.length ≤ 65536) (h : Parts l sg d r) : CutIs (ofL l) (ofL sg) (ofL d) (ofL r) :=
  cutIs_of (by rw [ofL_size]; exact hs) (by rw [ofL_list]; exact h.1) h.2.1 h.2.2.1 h.2.2.2
theorem sg_of (h : Parts l sg d r) (h43 : sg ≠ [43]) : sg = [] ∨ sg = [45] := by
  rcases h.2.1 with h | h | h
  · exact .inl h.1
  · exact absurd h h43
  · exact .inr h
theorem sg_of2 (h : Parts l sg d r) (h43 : sg ≠ [43]) (hdn : d ≠ []) : (sg = [] ∧ ∀ c, (d ++ []).head? = some c → c ≠ 43 ∧ c ≠ 45) ∨ sg = [45] := by
  refine (sg_of h h43).imp (fun e => ⟨e, fun x hx => ?_⟩) id
  have hd := h.2.2.1
  rw [List.append_nil] at hx
  cases d with
  | nil => exact absurd rfl hdn
  | cons a d' =>
    rw [List.all_cons, Bool.and_eq_true] at hd
    obtain rfl : a = x := by simpa using hx
    exact ⟨isD_43 hd.1, isD_45 hd.1⟩
theorem zokD (hd : d.all isD = true) (hn : d ≠ []) : zok (ofL d) = true := by
  rw [zok_l (ofL_list d)]
  exact zokL_of (sg := []) (r := []) (.inl ⟨rfl, fun x hx => by
    rw [List.append_nil] at hx
    cases d with
    | nil => exact absurd rfl hn
    | cons a d' =>
      rw [List.all_cons, Bool.and_eq_true] at hd
      obtain rfl : a = x := by simpa using hx
      exact ⟨isD_43 hd.1, isD_45 hd.1⟩⟩) hd hn
theorem zvlD (hd : d.all isD = true) (hn : d ≠ []) : zvl (ofL d) = (pval d : Nat) := by
  rw [zvl_l (ofL_list d)]
  cases d with
  | nil => exact absurd rfl hn
  | cons a d' =>
    rw [List.all_cons, Bool.and_eq_true] at hd
    unfold zvN
    rw [if_neg (by simpa using isD_45 hd.1)]
theorem pg_c {o : Option (Int × Int)} (hs : l.length ≤ 65536) (h : PgS l o) : PgC (ofL l) o := by
  obtain ⟨sg, d, r, hp, h⟩ := h
  have hc := cut_l hs hp
  have hz : (ofL l).size ≤ 65536 := by rw [ofL_size]; exact hs
  have hlen : sg.length + d.length + r.length ≤ 65536 := by
    have := congrArg List.length hp.1
    simp only [List.length_append] at this; omega
  have hAD : (ofL sg ++ ofL d).size ≤ 65536 := by rw [ByteArray.size_append, ofL_size, ofL_size]; omega
  have hD : (ofL d).size ≤ 65536 := by rw [ofL_size]; omega
  have hdd := hp.2.2.1
  intro w
  rcases h with ⟨h1, rfl⟩ | ⟨h1, h2, rfl⟩ | ⟨h1, h2, h3, rfl⟩ | ⟨h1, h2, h3, rfl⟩ | ⟨h1, h2, h3, h4, sg2, d2, r2, hp2, h5⟩
  · subst h1; exact parse_plus w hz hc (by decide +kernel)
  · subst h2
    have hA : ((ofL sg).toList == [43]) = false := by rw [ofL_eq, beq_eq_false_iff_ne]; exact h1
    rcases sg_of hp h1 with rfl | rfl
    · by_cases hdn : d = []
      · subst hdn
        exact parse_im_ep w hz hc hA (by decide +kernel) (by decide +kernel) (by decide +kernel)
      · have := parse_im_dp w hz hc hA (by decide +kernel) (ofL_ne hdn) (by decide +kernel) (zokD hdd hdn) hD
        rw [zvlD hdd hdn] at this
        show Calls _ _ _ _ _
        unfold amN snN; rw [if_neg hdn, if_neg (by decide)]; exact this
    · by_cases hdn : d = []
      · subst hdn
        exact parse_im_em w hz hc hA (by decide +kernel) (by decide +kernel) (by decide +kernel)
      · have := parse_im_dm w hz hc hA (by decide +kernel) (ofL_ne hdn) (by decide +kernel) (zokD hdd hdn) hD
        rw [zvlD hdd hdn] at this
        show Calls _ _ _ _ _
        unfold amN snN; rw [if_neg hdn, if_pos rfl]; exact this
  · refine parse_no1 w hz hc (by rw [ofL_eq, beq_eq_false_iff_ne]; exact h1) (by rw [ofL_eq, beq_eq_false_iff_ne]; exact h2) ?_ hAD
    rw [zok_l (ofL_apd sg d), h3, List.append_nil]
    exact zokL_0 (sg_of hp h1)
  · subst h3
    have := parse_whole w hz hc (by rw [ofL_eq, beq_eq_false_iff_ne]; exact h1) (by decide +kernel) (by decide +kernel) (by rw [zok_l (ofL_apd sg d)]; exact zokL_of (r := []) (sg_of2 hp h1 h2) hdd h2) hAD
    rw [zvl_l (ofL_apd sg d), zvN_of (sg_of2 hp h1 h2) hdd h2] at this
    exact this
  · have hA : ((ofL sg).toList == [43]) = false := by rw [ofL_eq, beq_eq_false_iff_ne]; exact h1
    have hR : ((ofL r).toList == [105]) = false := by rw [ofL_eq, beq_eq_false_iff_ne]; exact h4
    have hR0 := ofL_ne h3
    have hzk : zok (ofL sg ++ ofL d) = true := by rw [zok_l (ofL_apd sg d)]; exact zokL_of (r := []) (sg_of2 hp h1 h2) hdd h2
    have hzv : zvl (ofL sg ++ ofL d) = snN sg (pval d) := by rw [zvl_l (ofL_apd sg d), zvN_of (sg_of2 hp h1 h2) hdd h2]
    have hc2 := cut_l (by omega) hp2
    have hlen2 : sg2.length + d2.length + r2.length ≤ 65536 := by
      have := congrArg List.length hp2.1
      simp only [List.length_append] at this; omega
    have hD2 : (ofL d2).size ≤ 65536 := by rw [ofL_size]; omega
    rcases h5 with ⟨rfl, h6, rfl⟩ | ⟨h6, rfl⟩
    · rcases h6 with rfl | rfl
      · by_cases hdn : d2 = []
        · subst hdn
          have := parse_both_ep w hz hc hA hR hR0 hzk hAD hc2 (by decide +kernel) (by decide +kernel) (by decide +kernel)
          rw [hzv] at this; exact this
        · have := parse_both_dp w hz hc hA hR hR0 hzk hAD hc2 (by decide +kernel) (ofL_ne hdn) (by decide +kernel) (zokD hp2.2.2.1 hdn) hD2
          rw [hzv, zvlD hp2.2.2.1 hdn] at this
          show Calls _ _ _ _ _
          unfold amN; rw [if_neg hdn]; exact this
      · by_cases hdn : d2 = []
        · subst hdn
          have := parse_both_em w hz hc hA hR hR0 hzk hAD hc2 (by decide +kernel) (by decide +kernel) (by decide +kernel)
          rw [hzv] at this; exact this
        · have := parse_both_dm w hz hc hA hR hR0 hzk hAD hc2 (by decide +kernel) (ofL_ne hdn) (by decide +kernel) (zokD hp2.2.2.1 hdn) hD2
          rw [hzv, zvlD hp2.2.2.1 hdn] at this
          show Calls _ _ _ _ _
          unfold amN; rw [if_neg hdn]; exact this
    · exact parse_no2 w hz hc hA hR hR0 hzk hAD hc2 (by rw [ofL_eq, beq_eq_false_iff_ne]; exact h6)
end
theorem get_l {s : ByteArray} {l : List UInt8} (h : s.data.toList = l) {i : Nat} (hi : i < s.size) {x : UInt8} (hx : l[i]? = some x) : s[i]'hi = x := by
  subst h
  have h1 : s.data.toList[i]? = some (s.data[i]'hi) := by rw [Array.getElem?_toList]; exact Array.getElem?_eq_getElem hi
  rw [h1] at hx
  exact Option.some.inj hx
theorem ext_list {s : ByteArray} {l : List UInt8} (h : s.data.toList = l) (i j : Nat) : (s.extract i j).data.toList = (l.drop i).take (j - i) := by
  subst h
  rw [ByteArray.data_extract, Array.toList_extract, List.extract_eq_take_drop]
theorem size_l {s : ByteArray} {l : List UInt8} (h : s.data.toList = l) : s.size = l.length := by subst h; rw [Array.length_toList]; rfl
theorem am_yes {Q : ByteArray} {q : List UInt8} {n : Nat} (hQ : Q.data.toList = q) (hs : Q.size ≤ 65536) (h : amS q (some n)) : Am Q n := by
  rcases h with ⟨h1, h2⟩ | ⟨h1, h2, h3⟩ | ⟨_, _, h3⟩
  · obtain rfl := Option.some.inj h2
    subst h1
    obtain rfl : Q = ⟨#[]⟩ := ext_l hQ
    exact ⟨by decide +kernel, ramount_0⟩
  · obtain rfl := Option.some.inj h3
    have hne : (Q.toList == []) = false := by
      rw [beq_eq_false_iff_ne, ByteArray.toList_eq, hQ]; exact h1
    have hall := digits_all' h2
    have hm : minusB Q = false := by
      rw [minusB_list hQ]
      cases q with
      | nil => exact absurd rfl h1
      | cons a t =>
        rw [List.all_cons, Bool.and_eq_true] at hall
        have := isD_45 hall.1
        simpa using this
    have hz : zok Q = true := by unfold zok; rw [hm, if_neg (by decide), hQ]; exact h2
    have hv : zvl Q = ((pval q : Nat) : Int) := by unfold zvl; rw [hm, if_neg (by decide), hQ]
    have hl := zvl_len hs hz
    rw [hv] at hl
    exact ⟨hl, fun w1 => by rw [← hv]; exact ramount_ok Q w1 hs hne (by rw [hQ]; exact h2) hz⟩
  · exact absurd h3 (by simp)
theorem am_no {Q : ByteArray} {q : List UInt8} (hQ : Q.data.toList = q) (hs : Q.size ≤ 65536) (h : amS q none) : AmNo Q := by
  rcases h with ⟨_, h2⟩ | ⟨_, _, h3⟩ | ⟨h1, h2, _⟩
  · exact absurd h2 (by simp)
  · exact absurd h3 (by simp)
  · exact fun w1 => ramount_no Q w1 hs (by rw [beq_eq_false_iff_ne, ByteArray.toList_eq, hQ]; exact h1) (by rw [hQ]; exact h2)
theorem sp_0 {B : ByteArray} {b : List UInt8} (hB : B.data.toList = b) (hs : B.size ≤ 65536) (h : ∀ x ∈ b.tail, sgB x = false) : Sp B 0 := fun w1 =>
  rSplit_b B w1 hs 0 (.inl rfl) fun j hj hlt => by
    have hjl : j < b.length := by rw [← size_l hB]; exact hlt
    have hx : b[j]? = some b[j] := List.getElem?_eq_getElem hjl
    rw [get_l hB hlt hx]
    refine h _ ?_
    cases b with
    | nil => exact absurd hjl (Nat.not_lt_zero _)
    | cons a t =>
      obtain ⟨k, rfl⟩ : ∃ k, j = k + 1 := ⟨j - 1, by omega⟩
      exact List.getElem_mem (l := t) _
theorem sp_k {B : ByteArray} {p q : List UInt8} {c : UInt8} (hB : B.data.toList = p ++ c :: q) (hs : B.size ≤ 65536) (hp : p ≠ []) (hc : sgB c = true) (h : ∀ x ∈ q, sgB x = false) : Sp B p.length := fun w1 => by
  have hz := size_l hB
  rw [List.length_append, List.length_cons] at hz
  have hpl : 0 < p.length := List.length_pos_iff.2 hp
  have hK : p.length < B.size := by omega
  refine rSplit_b B w1 hs p.length (.inr ⟨hK, hpl, ?_⟩) fun j hj hlt => ?_
  · rw [get_l hB hK (x := c) (by simp)]; exact hc
  · obtain ⟨k, rfl⟩ : ∃ k, j = p.length + (k + 1) := ⟨j - p.length - 1, by omega⟩
    have hkq : k < q.length := by omega
    rw [get_l hB hlt (x := q[k]) (by rw [List.getElem?_append_right (by omega)]; simp [hkq])]
    exact h _ (List.getElem_mem _)
theorem eq_105 (c : UInt8) : ((c.toNat : Int) != 105) = !(c == 105) := by
  rw [bne]
  congr 1
  by_cases h : c = 105
  · subst h; rfl
  · rw [beq_eq_false_iff_ne.2 h, beq_eq_false_iff_ne]
    intro e; exact h (UInt8.toNat_inj.1 (by show c.toNat = 105; omega))
theorem eq_45 (c : UInt8) : ((c.toNat : Int) == 45) = (c == 45) := by
  by_cases h : c = 45
  · subst h; rfl
  · rw [beq_eq_false_iff_ne.2 h, beq_eq_false_iff_ne]
    intro e; exact h (UInt8.toNat_inj.1 (by show c.toNat = 45; omega))
theorem rf_c {l : List UInt8} {o : Option (Int × Int)} (hs : l.length ≤ 65536) (h : RfS l o) : RfC (ofL l) o := by
  intro w
  have hz : (ofL l).size ≤ 65536 := by rw [ofL_size]; exact hs
  rcases h with ⟨h1, h2⟩ | h
  · cases l with
    | nil =>
      rcases h2 with ⟨h3, _⟩ | ⟨_, rfl⟩
      · exact absurd h3 (by decide)
      · exact rp_e w
    | cons a t =>
      obtain ⟨c, hc⟩ : ∃ c, (a :: t).getLast? = some c := ⟨_, List.getLast?_eq_some_getLast (by simp)⟩
      have hp : 0 < (ofL (a :: t)).size := by rw [ofL_size]; simp
      have hci : (ofL (a :: t))[(ofL (a :: t)).size - 1]'(by omega) = c := get_l (ofL_list _) _ (by rw [ofL_size, ← List.getLast?_eq_getElem?]; exact hc)
      have h105 : ((c.toNat : Int) != 105) = true := by
        rw [eq_105, Bool.not_eq_true', beq_eq_false_iff_ne]; rintro rfl; exact h1 hc
      rcases h2 with ⟨h3, rfl⟩ | ⟨h3, rfl⟩
      · have := rp_yes w hz hp hci h105 (by rw [zok_l (ofL_list _)]; exact h3)
        rw [zvl_l (ofL_list _)] at this; exact this
      · exact rp_no w hz hp hci h105 (by rw [zok_l (ofL_list _)]; exact h3)
  · -- an i at the end
    obtain ⟨b, hb⟩ : ∃ b, l = b ++ [105] := by
      rcases h with ⟨q, a, h, _⟩ | ⟨b, a, h, _⟩ | ⟨p, c, q, h, _⟩
      · exact ⟨_, h⟩
      · exact ⟨_, h⟩
      · exact ⟨_, h⟩
    have hp : 0 < (ofL l).size := by rw [ofL_size, hb]; simp
    have hbl : (ofL l).size - 1 = b.length := by rw [ofL_size, hb]; simp
    have hci : (ofL l)[(ofL l).size - 1]'(by omega) = 105 := get_l (ofL_list _) _ (by rw [hbl, hb]; simp)
    have h105 : (((105 : UInt8).toNat : Int) != 105) = false := by decide
    have hB : ((ofL l).extract 0 ((ofL l).size - 1)).data.toList = b := by rw [ext_list (ofL_list l), hbl, hb]; simp
    have hBs : ((ofL l).extract 0 ((ofL l).size - 1)).size ≤ 65536 := by rw [size_l hB]; omega
    have hBz := size_l hB
    have hE : ∀ i j, (((ofL l).extract 0 ((ofL l).size - 1)).extract i j).data.toList = (b.drop i).take (j - i) := fun i j => ext_list hB i j
    have hEs : ∀ i j, (((ofL l).extract 0 ((ofL l).size - 1)).extract i j).size ≤ 65536 := fun i j => by rw [size_l (hE i j), List.length_take, List.length_drop]; omega
    rcases h with ⟨q, a, h1, h2, h3, rfl⟩ | ⟨b2, a, h1, h2, h3, h4, rfl⟩ | ⟨p, c, q, h1, h2, h3, h4, h5⟩
    · obtain rfl : b = 45 :: q := List.append_cancel_right (hb.symm.trans h1)
      have hpos : 0 < (ofL l).size - 1 := by rw [hbl]; simp
      have e0 : (((((ofL l).extract 0 ((ofL l).size - 1))[0]'(by rw [ByteArray.size_extract]; omega)).toNat : Int) == 45) = true := by
        rw [eq_45, get_l hB _ (x := 45) rfl]; rfl
      have hq : (((ofL l).extract 0 ((ofL l).size - 1)).extract 1 ((ofL l).size - 1)).data.toList = q := by rw [hE, hbl]; simp
      cases a with
      | none => exact rp_b_no w hz hp hci h105 hpos e0 (sp_0 hB hBs h2) (am_no hq (hEs _ _) h3)
      | some n => exact rp_b_yes w hz hp hci h105 hpos e0 (sp_0 hB hBs h2) (am_yes hq (hEs _ _) h3)
    · obtain rfl : b = b2 := List.append_cancel_right (hb.symm.trans h1)
      cases b with
      | nil =>
        cases a with
        | none =>
          rcases h4 with ⟨_, h6⟩ | ⟨h6, _⟩ | ⟨h6, _⟩
          · exact absurd h6 (by simp)
          · exact absurd rfl h6
          · exact absurd rfl h6
        | some n => exact rp_a_yes w hz hp hci h105 (by rw [hbl]; rfl) (sp_0 hB hBs h3) (am_yes hB hBs h4)
      | cons x t =>
        have hpos : 0 < (ofL l).size - 1 := by rw [hbl]; simp
        have e0 : (((((ofL l).extract 0 ((ofL l).size - 1))[0]'(by rw [ByteArray.size_extract]; omega)).toNat : Int) == 45) = false := by
          rw [eq_45, get_l hB _ (x := x) rfl, beq_eq_false_iff_ne]; simpa using h2
        cases a with
        | none => exact rp_c_no w hz hp hci h105 hpos e0 (sp_0 hB hBs h3) (am_no hB hBs h4)
        | some n => exact rp_c_yes w hz hp hci h105 hpos e0 (sp_0 hB hBs h3) (am_yes hB hBs h4)
    · obtain rfl : b = p ++ c :: q := List.append_cancel_right (hb.symm.trans (by rw [h1]))
      have hpl : 0 < p.length := List.length_pos_iff.2 h2
      have hJ2 : p.length < (ofL l).size - 1 := by rw [hbl]; simp
      have hS := sp_k hB hBs h2 h3 h4
      have hP : (((ofL l).extract 0 ((ofL l).size - 1)).extract 0 p.length).data.toList = p := by rw [hE]; simp
      have hQ : (((ofL l).extract 0 ((ofL l).size - 1)).extract (p.length + 1) ((ofL l).size - 1)).data.toList = q := by
        rw [hE, hbl, show p ++ c :: q = (p ++ [c]) ++ q by simp, show p.length + 1 = (p ++ [c]).length by simp, List.drop_left, List.take_of_length_le (by simp only [List.length_append]; omega)]
      rcases h5 with ⟨h6, rfl⟩ | ⟨h6, a, h7, rfl⟩
      · exact rp_k_n1 w hz hp hci h105 hpl hJ2 hS (by rw [zok_l hP]; exact h6)
      · cases a with
        | none => exact rp_k_n2 w hz hp hci h105 hpl hJ2 hS (by rw [zok_l hP]; exact h6) (am_no hQ (hEs _ _) h7)
        | some n =>
          have hcx : ((ofL l).extract 0 ((ofL l).size - 1))[p.length]'(by rw [ByteArray.size_extract]; omega) = c := get_l hB _ (by simp)
          by_cases h45 : c = 45
          · have := rp_k_m w hz hp hci h105 hpl hJ2 (by rw [eq_45, hcx, h45]; rfl) hS (by rw [zok_l hP]; exact h6) (am_yes hQ (hEs _ _) h7)
            rw [zvl_l hP] at this
            show Calls _ _ _ _ _
            rw [if_pos h45]; exact this
          · have := rp_k_p w hz hp hci h105 hpl hJ2 (by rw [eq_45, hcx, beq_eq_false_iff_ne]; exact h45) hS (by rw [zok_l hP]; exact h6) (am_yes hQ (hEs _ _) h7)
            rw [zvl_l hP] at this
            show Calls _ _ _ _ _
            rw [if_neg h45]; exact this
theorem sn_len {sg d : List UInt8} (hd : d.all isD = true) (hl : d.length ≤ 65536) : (dig (snN sg (pval d)).natAbs).length ≤ 8192 ∧ (dig (snN sg (amN d)).natAbs).length ≤ 8192 := by
  have h1 : (dig (pval d)).length ≤ 8192 := pval_dig_length hd hl
  have h2 : (dig (amN d)).length ≤ 8192 := by
    unfold amN
    split
    · decide +kernel
    · exact h1
  have e : ∀ n : Nat, (snN sg n).natAbs = n := fun n => by
    unfold snN; split
    · rw [Int.natAbs_neg, Int.natAbs_natCast]
    · rw [Int.natAbs_natCast]
  exact ⟨by rw [e]; exact h1, by rw [e]; exact h2⟩
theorem pg_len {l : List UInt8} {o : Option (Int × Int)} (hs : l.length ≤ 65536) (h : PgS l o) : ∀ x y, o = some (x, y) → (dig x.natAbs).length ≤ 8192 ∧ (dig y.natAbs).length ≤ 8192 := by
  obtain ⟨sg, d, r, hp, h⟩ := h
  have hlen : sg.length + d.length + r.length ≤ 65536 := by
    have := congrArg List.length hp.1
    simp only [List.length_append] at this; omega
  have z0 : (dig (0 : Int).natAbs).length ≤ 8192 := by decide
  have hd := hp.2.2.1
  intro x y ho
  rcases h with ⟨h1, rfl⟩ | ⟨h1, h2, rfl⟩ | ⟨h1, h2, h3, rfl⟩ | ⟨h1, h2, h3, rfl⟩ | ⟨h1, h2, h3, h4, sg2, d2, r2, hp2, h5⟩
  · exact absurd ho (by simp)
  · obtain ⟨rfl, rfl⟩ := Prod.mk.inj (Option.some.inj ho)
    exact ⟨z0, (sn_len hd (by omega)).2⟩
  · exact absurd ho (by simp)
  · obtain ⟨rfl, rfl⟩ := Prod.mk.inj (Option.some.inj ho)
    exact ⟨(sn_len hd (by omega)).1, z0⟩
  · have hlen2 : sg2.length + d2.length + r2.length ≤ 65536 := by
      have := congrArg List.length hp2.1
      simp only [List.length_append] at this; omega
    rcases h5 with ⟨_, _, rfl⟩ | ⟨_, rfl⟩
    · obtain ⟨rfl, rfl⟩ := Prod.mk.inj (Option.some.inj ho)
      exact ⟨(sn_len hd (by omega)).1, (sn_len hp2.2.2.1 (by omega)).2⟩
    · exact absurd ho (by simp)
/-- Both tell one thing of every text. -/
theorem both_c {s : ByteArray} (hs : s.size ≤ 65536) : ∃ o, PgC s o ∧ RfC s o ∧ ∀ x y, o = some (x, y) → (dig x.natAbs).length ≤ 8192 ∧ (dig y.natAbs).length ≤ 8192 := by
  have e : s = ofL s.data.toList := eq_ofL rfl
  obtain ⟨o, h1, h2⟩ := same s.data.toList
  have hl : s.data.toList.length ≤ 65536 := by rw [← size_l rfl]; exact hs
  rw [e]
  exact ⟨o, pg_c hl h1, rf_c hl h2, pg_len hl h1⟩
theorem zts_ne (x : Int) : ((zts x).toList == []) = false := by
  rw [beq_eq_false_iff_ne]
  intro h
  have h1 : (ofL (zlist x)).toList = [] := h
  rw [ofL_toList] at h1
  have h2 := zlist_len x
  have h3 := dec_len_pos x.natAbs
  rw [h1] at h2
  simp only [List.length_nil] at h2
  omega
section
variable {w : World} {va : Value} {x y : Int} {l m : Nat}
set_option maxHeartbeats 4000000 in
set_option maxRecDepth 20000 in
theorem rt_z0 (ha : PN w va x l y m) (hl : l ≤ 10000000) (hm : m ≤ 10000000) (hx : x = 0) (hy : y = 0) :
    Calls Tryz.prog 22 #[va] w fun e w' => e = .returned (.string (gts x y)) ∧ Below w.heap.size w w' := by
  have HX1 := hide hx
  have HY1 := hide hy
  have sx : ((x.sign : Int) != 0) = false := by rw [hx]; rfl
  have sy : ((y.sign : Int) == 0) = true := by rw [hy]; rfl
  obtain ⟨X, hX⟩ : ∃ X, zts x = X := ⟨_, rfl⟩
  have HX := hide hX
  have xe : (X.toList == []) = false := by rw [← hX]; exact zts_ne x
  have xn : (X.toList != []) = true := by rw [bne, xe]; rfl
  have xz : X.size ≤ 100000100 := by rw [← hX]; exact Nat.le_trans (zts_size ha.len1) (by omega)
  clear hX
  clear hx hy
  obtain ⟨n_0a, o_0a, k_0a, c_0a, n_0b, o_0b, k_0b, c_0b, rfl, ha1, ha2⟩ := ha
  go_enter Tryz.func22, Tryz.ntmps22
  have hs := St.nil w
  refine wp_seq_k ?_
  intro K1 hK1
  refine rg [0, 1] ?_
  refine sq ?_
  refine .al hs ?_; clear hs; intro p_b1 w_1 hs n1 kb_b1
  refine sq ?_
  refine .mv ?_
  apply wpSq_end
  refine hK1 _ _ ?_
  refine wp_seq_k ?_
  intro K2 hK2
  refine rg [0] ?_
  refine sq ?_
  refine .mv ?_
  apply wpSq_end
  refine hK2 _ _ ?_
  refine wp_seq_k ?_
  intro K3 hK3
  refine wp_seq_k ?_
  intro K4 hK4
  refine rg [0, 1, 2, 3, 4, 5, 6, 7, 8, 9] ?_
  refine sq ?_
  refine .r0 ?_
  refine sq ?_
  refine .r4 hs.g0.f4 ?_
  refine sq ?_
  intro K hK
  have k0_1 := kb n1
  replace ha1 := ha1.k k0_1
  go_big_op
  go_fit (rzsign_any ha1 (by omega))
  rintro e w_2 ⟨rfl, hb_2⟩
  replace hs := hs.bl hb_2
  refine hK _ _ rfl trivial ?_
  clear hK K
  refine sq ?_
  refine .r0 ?_
  refine sq ?_
  refine .mv ?_
  refine sq ?_
  refine .r0 ?_
  refine sq ?_
  refine .r4 hs.g0.f4 ?_
  refine sq ?_
  intro K hK
  have k0_2 := k0_1.b hb_2
  replace ha2 := ha2.k k0_2
  go_big_op
  go_fit (rzsign_any ha2 (by omega))
  rintro e w_3 ⟨rfl, hb_3⟩
  replace hs := hs.bl hb_3
  refine hK _ _ rfl trivial ?_
  clear hK K
  refine sq ?_
  refine .r0 ?_
  refine sq ?_
  refine .r0 ?_
  apply wpSq_end
  refine hK4 _ _ ?_
  refine ct ?_
  refine rg [0, 1, 2, 3] ?_
  refine sq ?_
  refine .r0 ?_
  refine sq ?_
  refine .r4 hs.g0.f4 ?_
  refine sq ?_
  intro K hK
  have k1_3 := (kb hb_2).b hb_3
  replace ha1 := ha1.k k1_3
  go_big_op
  go_fit (rztext_s ha1 (by omega))
  rintro e w_4 ⟨rfl, hb_4⟩
  replace hs := hs.bl hb_4
  rw [HX.out]
  refine hK _ _ rfl trivial ?_
  clear hK K
  refine sq ?_
  refine .mv ?_
  apply wpSq_end
  refine hK3 _ _ ?_
  refine wp_seq_k ?_
  intro K5 hK5
  refine wp_seq_k ?_
  intro K6 hK6
  refine rg [0, 1, 2, 3] ?_
  refine sq ?_
  refine .r0 ?_
  refine sq ?_
  refine .r4 hs.g0.f4 ?_
  refine sq ?_
  intro K hK
  have k2_4 := (kb hb_3).b hb_4
  replace ha2 := ha2.k k2_4
  go_big_op
  go_fit (rzsign_any ha2 (by omega))
  rintro e w_5 ⟨rfl, hb_5⟩
  replace hs := hs.bl hb_5
  refine hK _ _ rfl trivial ?_
  clear hK K
  refine sq ?_
  refine .r0 ?_
  apply wpSq_end
  refine hK6 _ _ ?_
  refine ct ?_
  refine wp_seq_k ?_
  intro K7 hK7
  refine rg [0, 1] ?_
  refine sq ?_
  refine .mv ?_
  refine sq ?_
  refine .mv ?_
  apply wpSq_end
  refine hK7 _ _ ?_
  refine wp_ret ?_
  try dsimp only [Exit.then, Exit.inBlock]
  refine bodyPost_ret (v := (.string X)) (by simp [results, Tryz.results22, go_sem]) rfl ?_
  have hb := hs.b
  exact ⟨by rw [← HX.out, HY1.out]; unfold gts; rw [if_pos rfl], hb⟩
set_option maxHeartbeats 4000000 in
set_option maxRecDepth 20000 in
theorem rt_zm1 (ha : PN w va x l y m) (hl : l ≤ 10000000) (hm : m ≤ 10000000) (hx : x = 0) (hy : y < 0) (h1 : y.natAbs = 1) :
    Calls Tryz.prog 22 #[va] w fun e w' => e = .returned (.string (gts x y)) ∧ Below w.heap.size w w' := by
  have HX1 := hide hx
  have HY1 := hide hy
  have H11 := hide h1
  have sx : ((x.sign : Int) != 0) = false := by rw [hx]; rfl
  have sy : ((y.sign : Int) == 0) = false := by rw [beq_eq_false_iff_ne]; exact fun h => by have := Int.sign_eq_zero_iff_zero.1 h; omega
  have sn : ((y.sign : Int) < 0) = True := eq_true (by rw [Int.sign_eq_neg_one_of_neg hy]; decide)
  obtain ⟨X, hX⟩ : ∃ X, zts x = X := ⟨_, rfl⟩
  have HX := hide hX
  have xe : (X.toList == []) = false := by rw [← hX]; exact zts_ne x
  have xn : (X.toList != []) = true := by rw [bne, xe]; rfl
  have xz : X.size ≤ 100000100 := by rw [← hX]; exact Nat.le_trans (zts_size ha.len1) (by omega)
  clear hX
  obtain ⟨N, hN⟩ : ∃ N, zts (y.natAbs : Int) = N := ⟨_, rfl⟩
  have HN := hide hN
  have nz : N.size ≤ 100000100 := by rw [← hN]; exact Nat.le_trans (zts_size (l := m) (by rw [Int.natAbs_natCast]; exact ha.len2)) (by omega)
  clear hN
  have HL := hide (show (dig ((y.natAbs : Nat) : Int).natAbs).length ≤ m by rw [Int.natAbs_natCast]; exact ha.len2)
  have cz : ((zcmp ((y.natAbs : Nat) : Int) 1 : Int) != 0) = false := by rw [h1]; rfl
  clear hx hy h1
  obtain ⟨n_0a, o_0a, k_0a, c_0a, n_0b, o_0b, k_0b, c_0b, rfl, ha1, ha2⟩ := ha
  go_enter Tryz.func22, Tryz.ntmps22
  have hs := St.nil w
  refine wp_seq_k ?_
  intro K1 hK1
  refine rg [0, 1] ?_
  refine sq ?_
  refine .al hs ?_; clear hs; intro p_b1 w_1 hs n1 kb_b1
  refine sq ?_
  refine .mv ?_
  apply wpSq_end
  refine hK1 _ _ ?_
  refine wp_seq_k ?_
  intro K2 hK2
  refine rg [0] ?_
  refine sq ?_
  refine .mv ?_
  apply wpSq_end
  refine hK2 _ _ ?_
  refine wp_seq_k ?_
  intro K3 hK3
  refine wp_seq_k ?_
  intro K4 hK4
  refine rg [0, 1, 2, 3, 4, 5, 6, 7, 8, 9] ?_
  refine sq ?_
  refine .r0 ?_
  refine sq ?_
  refine .r4 hs.g0.f4 ?_
  refine sq ?_
  intro K hK
  have k0_1 := kb n1
  replace ha1 := ha1.k k0_1
  go_big_op
  go_fit (rzsign_any ha1 (by omega))
  rintro e w_2 ⟨rfl, hb_2⟩
  replace hs := hs.bl hb_2
  refine hK _ _ rfl trivial ?_
  clear hK K
  refine sq ?_
  refine .r0 ?_
  refine sq ?_
  refine .mv ?_
  refine sq ?_
  refine .r0 ?_
  refine sq ?_
  refine .r4 hs.g0.f4 ?_
  refine sq ?_
  intro K hK
  have k0_2 := k0_1.b hb_2
  replace ha2 := ha2.k k0_2
  go_big_op
  go_fit (rzsign_any ha2 (by omega))
  rintro e w_3 ⟨rfl, hb_3⟩
  replace hs := hs.bl hb_3
  refine hK _ _ rfl trivial ?_
  clear hK K
  refine sq ?_
  refine .r0 ?_
  refine sq ?_
  refine .r0 ?_
  apply wpSq_end
  refine hK4 _ _ ?_
  refine cf ?_
  refine wp_skip ?_
  refine hK3 _ _ ?_
  refine wp_seq_k ?_
  intro K5 hK5
  refine wp_seq_k ?_
  intro K6 hK6
  refine rg [0, 1, 2, 3] ?_
  refine sq ?_
  refine .r0 ?_
  refine sq ?_
  refine .r4 hs.g0.f4 ?_
  refine sq ?_
  intro K hK
  have k2_3 := kb hb_3
  replace ha2 := ha2.k k2_3
  go_big_op
  go_fit (rzsign_any ha2 (by omega))
  rintro e w_4 ⟨rfl, hb_4⟩
  replace hs := hs.bl hb_4
  refine hK _ _ rfl trivial ?_
  clear hK K
  refine sq ?_
  refine .r0 ?_
  apply wpSq_end
  refine hK6 _ _ ?_
  refine cf ?_
  refine wp_skip ?_
  refine hK5 _ _ ?_
  refine wp_seq_k ?_
  intro K7 hK7
  refine wp_seq_k ?_
  intro K8 hK8
  refine rg [0, 1, 2, 3] ?_
  refine sq ?_
  refine .r0 ?_
  refine sq ?_
  refine .r4 hs.g0.f4 ?_
  refine sq ?_
  intro K hK
  have k3_4 := kb hb_4
  replace ha2 := ha2.k k3_4
  go_big_op
  go_fit (rzsign_any ha2 (by omega))
  rintro e w_5 ⟨rfl, hb_5⟩
  replace hs := hs.bl hb_5
  refine hK _ _ rfl trivial ?_
  clear hK K
  refine sq ?_
  refine .r0 ?_
  apply wpSq_end
  refine hK8 _ _ ?_
  refine ct ?_
  refine rg [0, 1, 2] ?_
  refine sq ?_
  refine .mv ?_
  refine sq ?_
  refine .r0 ?_
  refine sq ?_
  refine .mv ?_
  apply wpSq_end
  refine hK7 _ _ ?_
  refine wp_seq_k ?_
  intro K9 hK9
  refine rg [0, 1, 2, 3, 4] ?_
  refine sq ?_
  refine .r0 ?_
  refine sq ?_
  refine .r4 hs.g0.f4 ?_
  refine sq ?_
  intro K hK
  have k4_5 := kb hb_5
  replace ha2 := ha2.k k4_5
  go_big_op
  go_fit (rabs_any ha2 (by omega))
  rintro e w_6 ⟨v_n, rfl, n, hb_6⟩
  replace hs := hs.bl hb_6
  replace n := n.rd
  obtain ⟨n_n, o_n, k_n, c_n, rfl⟩ := n.open2
  have Ln := hide (n.lenOf (HL.out))
  refine hK _ _ rfl trivial ?_
  clear hK K
  refine sq ?_
  refine .al hs ?_; clear hs; intro p_b2 w_7 hs n7 kb_b2
  refine sq ?_
  refine .s2 hs.g0 (fun _ => hs.u0 kb_b2) ?_; clear hs; intro w_8 hs hd8 ho8
  apply wpSq_end
  refine hK9 _ _ ?_
  refine wp_seq_k ?_
  intro K10 hK10
  refine wp_seq_k ?_
  intro K11 hK11
  refine wp_region_f4 [(0, false), (1, true), (2, true), (3, false)] [] [] (fun _ => default) [0, 99, 99, 99] [] (.c hs.g0 .n) fn fun w_9 n9 => ?_
  replace hs := hs.bl n9
  refine f2 ?_
  refine fl fun w_10 n10 => ?_
  replace hs := hs.bl n10
  intro K hK
  go_big_op
  go_fit (ri_any 1 _ (by decide) (by decide))
  rintro e w_11 ⟨v_o, rfl, o, hb_11⟩
  replace hs := hs.bl hb_11
  replace o := o.rd
  obtain ⟨n_o, o_o, k_o, c_o, rfl⟩ := o.open2
  have Lo := hide (o.lenOf (zlen_i (1 : Int) (by decide) (by decide)))
  refine hK _ _ rfl ⟨hb_11, (And.intro hs.g0 trivial)⟩ ?_
  clear hK K
  refine fl fun w_12 n12 => ?_
  replace hs := hs.bl n12
  intro K hK
  have k6_12 := (((((kb n7).o hd8 ho8).b n9).b n10).b hb_11).b n12
  replace n := n.k k6_12
  have k11_12 := kb n12
  replace o := o.k k11_12
  go_big_op
  go_fit (rzcmp_any (n.zn HL.out) (o.zn Lo.out) (by omega) (by omega))
  rintro e w_13 ⟨rfl, hb_13⟩
  replace hs := hs.bl hb_13
  refine hK _ _ rfl ⟨hb_13, (And.intro hs.g0 trivial)⟩ ?_
  clear hK K
  refine f0 ?_
  refine e0 hs ?_; clear hs; intro w_14 hs n14
  apply wpTail_end
  refine hK11 _ _ ?_
  refine cf ?_
  refine wp_skip ?_
  refine hK10 _ _ ?_
  refine wp_seq_k ?_
  intro K12 hK12
  refine rg [0, 1, 2] ?_
  refine sq ?_
  refine .mv ?_
  refine sq ?_
  refine .r0 ?_
  refine sq ?_
  refine .mv ?_
  apply wpSq_end
  refine hK12 _ _ ?_
  refine wp_ret ?_
  try dsimp only [Exit.then, Exit.inBlock]
  refine bodyPost_ret (v := (.string (⟨#[]⟩ ++ ⟨#[45]⟩ ++ ⟨#[105]⟩))) (by simp [results, Tryz.results22, go_sem]) rfl ?_
  have hb := hs.b
  exact ⟨by rw [show gts x y = _ from rfl]; unfold gts gRe gSg gAm; (rw [if_neg (show ¬ y = 0 by have := HY1.out; omega), if_pos HX1.out, if_pos HY1.out, if_neg (show ¬ 1 < bitsN y.natAbs by rw [one_bit]; have := H11.out; omega)]) <;> exact congrArg (fun z => Ending.returned (Value.string z)) (ext_l (by simp)), hb⟩
set_option maxHeartbeats 4000000 in
set_option maxRecDepth 20000 in
theorem rt_zmn (ha : PN w va x l y m) (hl : l ≤ 10000000) (hm : m ≤ 10000000) (hx : x = 0) (hy : y < 0) (h1 : y.natAbs ≠ 1) :
    Calls Tryz.prog 22 #[va] w fun e w' => e = .returned (.string (gts x y)) ∧ Below w.heap.size w w' := by
  have HX1 := hide hx
  have HY1 := hide hy
  have H11 := hide h1
  have sx : ((x.sign : Int) != 0) = false := by rw [hx]; rfl
  have sy : ((y.sign : Int) == 0) = false := by rw [beq_eq_false_iff_ne]; exact fun h => by have := Int.sign_eq_zero_iff_zero.1 h; omega
  have sn : ((y.sign : Int) < 0) = True := eq_true (by rw [Int.sign_eq_neg_one_of_neg hy]; decide)
  obtain ⟨X, hX⟩ : ∃ X, zts x = X := ⟨_, rfl⟩
  have HX := hide hX
  have xe : (X.toList == []) = false := by rw [← hX]; exact zts_ne x
  have xn : (X.toList != []) = true := by rw [bne, xe]; rfl
  have xz : X.size ≤ 100000100 := by rw [← hX]; exact Nat.le_trans (zts_size ha.len1) (by omega)
  clear hX
  obtain ⟨N, hN⟩ : ∃ N, zts (y.natAbs : Int) = N := ⟨_, rfl⟩
  have HN := hide hN
  have nz : N.size ≤ 100000100 := by rw [← hN]; exact Nat.le_trans (zts_size (l := m) (by rw [Int.natAbs_natCast]; exact ha.len2)) (by omega)
  clear hN
  have HL := hide (show (dig ((y.natAbs : Nat) : Int).natAbs).length ≤ m by rw [Int.natAbs_natCast]; exact ha.len2)
  have cz : ((zcmp ((y.natAbs : Nat) : Int) 1 : Int) != 0) = true := by rw [bne_iff_ne]; unfold zcmp; split; decide; rw [if_neg (by omega)]; decide
  clear hx hy h1
  obtain ⟨n_0a, o_0a, k_0a, c_0a, n_0b, o_0b, k_0b, c_0b, rfl, ha1, ha2⟩ := ha
  go_enter Tryz.func22, Tryz.ntmps22
  have hs := St.nil w
  refine wp_seq_k ?_
  intro K1 hK1
  refine rg [0, 1] ?_
  refine sq ?_
  refine .al hs ?_; clear hs; intro p_b1 w_1 hs n1 kb_b1
  refine sq ?_
  refine .mv ?_
  apply wpSq_end
  refine hK1 _ _ ?_
  refine wp_seq_k ?_
  intro K2 hK2
  refine rg [0] ?_
  refine sq ?_
  refine .mv ?_
  apply wpSq_end
  refine hK2 _ _ ?_
  refine wp_seq_k ?_
  intro K3 hK3
  refine wp_seq_k ?_
  intro K4 hK4
  refine rg [0, 1, 2, 3, 4, 5, 6, 7, 8, 9] ?_
  refine sq ?_
  refine .r0 ?_
  refine sq ?_
  refine .r4 hs.g0.f4 ?_
  refine sq ?_
  intro K hK
  have k0_1 := kb n1
  replace ha1 := ha1.k k0_1
  go_big_op
  go_fit (rzsign_any ha1 (by omega))
  rintro e w_2 ⟨rfl, hb_2⟩
  replace hs := hs.bl hb_2
  refine hK _ _ rfl trivial ?_
  clear hK K
  refine sq ?_
  refine .r0 ?_
  refine sq ?_
  refine .mv ?_
  refine sq ?_
  refine .r0 ?_
  refine sq ?_
  refine .r4 hs.g0.f4 ?_
  refine sq ?_
  intro K hK
  have k0_2 := k0_1.b hb_2
  replace ha2 := ha2.k k0_2
  go_big_op
  go_fit (rzsign_any ha2 (by omega))
  rintro e w_3 ⟨rfl, hb_3⟩
  replace hs := hs.bl hb_3
  refine hK _ _ rfl trivial ?_
  clear hK K
  refine sq ?_
  refine .r0 ?_
  refine sq ?_
  refine .r0 ?_
  apply wpSq_end
  refine hK4 _ _ ?_
  refine cf ?_
  refine wp_skip ?_
  refine hK3 _ _ ?_
  refine wp_seq_k ?_
  intro K5 hK5
  refine wp_seq_k ?_
  intro K6 hK6
  refine rg [0, 1, 2, 3] ?_
  refine sq ?_
  refine .r0 ?_
  refine sq ?_
  refine .r4 hs.g0.f4 ?_
  refine sq ?_
  intro K hK
  have k2_3 := kb hb_3
  replace ha2 := ha2.k k2_3
  go_big_op
  go_fit (rzsign_any ha2 (by omega))
  rintro e w_4 ⟨rfl, hb_4⟩
  replace hs := hs.bl hb_4
  refine hK _ _ rfl trivial ?_
  clear hK K
  refine sq ?_
  refine .r0 ?_
  apply wpSq_end
  refine hK6 _ _ ?_
  refine cf ?_
  refine wp_skip ?_
  refine hK5 _ _ ?_
  refine wp_seq_k ?_
  intro K7 hK7
  refine wp_seq_k ?_
  intro K8 hK8
  refine rg [0, 1, 2, 3] ?_
  refine sq ?_
  refine .r0 ?_
  refine sq ?_
  refine .r4 hs.g0.f4 ?_
  refine sq ?_
  intro K hK
  have k3_4 := kb hb_4
  replace ha2 := ha2.k k3_4
  go_big_op
  go_fit (rzsign_any ha2 (by omega))
  rintro e w_5 ⟨rfl, hb_5⟩
  replace hs := hs.bl hb_5
  refine hK _ _ rfl trivial ?_
  clear hK K
  refine sq ?_
  refine .r0 ?_
  apply wpSq_end
  refine hK8 _ _ ?_
  refine ct ?_
  refine rg [0, 1, 2] ?_
  refine sq ?_
  refine .mv ?_
  refine sq ?_
  refine .r0 ?_
  refine sq ?_
  refine .mv ?_
  apply wpSq_end
  refine hK7 _ _ ?_
  refine wp_seq_k ?_
  intro K9 hK9
  refine rg [0, 1, 2, 3, 4] ?_
  refine sq ?_
  refine .r0 ?_
  refine sq ?_
  refine .r4 hs.g0.f4 ?_
  refine sq ?_
  intro K hK
  have k4_5 := kb hb_5
  replace ha2 := ha2.k k4_5
  go_big_op
  go_fit (rabs_any ha2 (by omega))
  rintro e w_6 ⟨v_n, rfl, n, hb_6⟩
  replace hs := hs.bl hb_6
  replace n := n.rd
  obtain ⟨n_n, o_n, k_n, c_n, rfl⟩ := n.open2
  have Ln := hide (n.lenOf (HL.out))
  refine hK _ _ rfl trivial ?_
  clear hK K
  refine sq ?_
  refine .al hs ?_; clear hs; intro p_b2 w_7 hs n7 kb_b2
  refine sq ?_
  refine .s2 hs.g0 (fun _ => hs.u0 kb_b2) ?_; clear hs; intro w_8 hs hd8 ho8
  apply wpSq_end
  refine hK9 _ _ ?_
  refine wp_seq_k ?_
  intro K10 hK10
  refine wp_seq_k ?_
  intro K11 hK11
  refine wp_region_f4 [(0, false), (1, true), (2, true), (3, false)] [] [] (fun _ => default) [0, 99, 99, 99] [] (.c hs.g0 .n) fn fun w_9 n9 => ?_
  replace hs := hs.bl n9
  refine f2 ?_
  refine fl fun w_10 n10 => ?_
  replace hs := hs.bl n10
  intro K hK
  go_big_op
  go_fit (ri_any 1 _ (by decide) (by decide))
  rintro e w_11 ⟨v_o, rfl, o, hb_11⟩
  replace hs := hs.bl hb_11
  replace o := o.rd
  obtain ⟨n_o, o_o, k_o, c_o, rfl⟩ := o.open2
  have Lo := hide (o.lenOf (zlen_i (1 : Int) (by decide) (by decide)))
  refine hK _ _ rfl ⟨hb_11, (And.intro hs.g0 trivial)⟩ ?_
  clear hK K
  refine fl fun w_12 n12 => ?_
  replace hs := hs.bl n12
  intro K hK
  have k6_12 := (((((kb n7).o hd8 ho8).b n9).b n10).b hb_11).b n12
  replace n := n.k k6_12
  have k11_12 := kb n12
  replace o := o.k k11_12
  go_big_op
  go_fit (rzcmp_any (n.zn HL.out) (o.zn Lo.out) (by omega) (by omega))
  rintro e w_13 ⟨rfl, hb_13⟩
  replace hs := hs.bl hb_13
  refine hK _ _ rfl ⟨hb_13, (And.intro hs.g0 trivial)⟩ ?_
  clear hK K
  refine f0 ?_
  refine e0 hs ?_; clear hs; intro w_14 hs n14
  apply wpTail_end
  refine hK11 _ _ ?_
  refine ct ?_
  refine rg [0, 1, 2, 3, 4] ?_
  refine sq ?_
  refine .mv ?_
  refine sq ?_
  refine .r2 hs.g0.f2 ?_
  refine sq ?_
  intro K hK
  have k12_14 := (kb hb_13).b n14
  replace n := n.k k12_14
  go_big_op
  go_fit (rztext_s (n.zn HL.out) (by omega))
  rintro e w_15 ⟨rfl, hb_15⟩
  replace hs := hs.bl hb_15
  rw [HN.out]
  refine hK _ _ rfl trivial ?_
  clear hK K
  refine sq ?_
  refine .r0 ?_
  refine sq ?_
  refine .mv ?_
  apply wpSq_end
  refine hK10 _ _ ?_
  refine wp_seq_k ?_
  intro K12 hK12
  refine rg [0, 1, 2] ?_
  refine sq ?_
  refine .mv ?_
  refine sq ?_
  refine .r0 ?_
  refine sq ?_
  refine .mv ?_
  apply wpSq_end
  refine hK12 _ _ ?_
  refine wp_ret ?_
  try dsimp only [Exit.then, Exit.inBlock]
  refine bodyPost_ret (v := (.string (⟨#[]⟩ ++ ⟨#[45]⟩ ++ N ++ ⟨#[105]⟩))) (by simp [results, Tryz.results22, go_sem]) rfl ?_
  have hb := hs.b
  exact ⟨by rw [← HN.out, show gts x y = _ from rfl]; unfold gts gRe gSg gAm; (rw [if_neg (show ¬ y = 0 by have := HY1.out; omega), if_pos HX1.out, if_pos HY1.out, if_pos (show 1 < bitsN y.natAbs by rw [one_bit]; have := H11.out; have := HY1.out; omega)]) <;> exact congrArg (fun z => Ending.returned (Value.string z)) (ext_l (by simp)), hb⟩
set_option maxHeartbeats 4000000 in
set_option maxRecDepth 20000 in
theorem rt_zp1 (ha : PN w va x l y m) (hl : l ≤ 10000000) (hm : m ≤ 10000000) (hx : x = 0) (hy : 0 < y) (h1 : y.natAbs = 1) :
    Calls Tryz.prog 22 #[va] w fun e w' => e = .returned (.string (gts x y)) ∧ Below w.heap.size w w' := by
  have HX1 := hide hx
  have HY1 := hide hy
  have H11 := hide h1
  have sx : ((x.sign : Int) != 0) = false := by rw [hx]; rfl
  have sy : ((y.sign : Int) == 0) = false := by rw [beq_eq_false_iff_ne]; exact fun h => by have := Int.sign_eq_zero_iff_zero.1 h; omega
  have sn : ((y.sign : Int) < 0) = False := eq_false (by rw [Int.sign_eq_one_of_pos hy]; decide)
  obtain ⟨X, hX⟩ : ∃ X, zts x = X := ⟨_, rfl⟩
  have HX := hide hX
  have xe : (X.toList == []) = false := by rw [← hX]; exact zts_ne x
  have xn : (X.toList != []) = true := by rw [bne, xe]; rfl
  have xz : X.size ≤ 100000100 := by rw [← hX]; exact Nat.le_trans (zts_size ha.len1) (by omega)
  clear hX
  obtain ⟨N, hN⟩ : ∃ N, zts (y.natAbs : Int) = N := ⟨_, rfl⟩
  have HN := hide hN
  have nz : N.size ≤ 100000100 := by rw [← hN]; exact Nat.le_trans (zts_size (l := m) (by rw [Int.natAbs_natCast]; exact ha.len2)) (by omega)
  clear hN
  have HL := hide (show (dig ((y.natAbs : Nat) : Int).natAbs).length ≤ m by rw [Int.natAbs_natCast]; exact ha.len2)
  have cz : ((zcmp ((y.natAbs : Nat) : Int) 1 : Int) != 0) = false := by rw [h1]; rfl
  clear hx hy h1
  obtain ⟨n_0a, o_0a, k_0a, c_0a, n_0b, o_0b, k_0b, c_0b, rfl, ha1, ha2⟩ := ha
  go_enter Tryz.func22, Tryz.ntmps22
  have hs := St.nil w
  refine wp_seq_k ?_
  intro K1 hK1
  refine rg [0, 1] ?_
  refine sq ?_
  refine .al hs ?_; clear hs; intro p_b1 w_1 hs n1 kb_b1
  refine sq ?_
  refine .mv ?_
  apply wpSq_end
  refine hK1 _ _ ?_
  refine wp_seq_k ?_
  intro K2 hK2
  refine rg [0] ?_
  refine sq ?_
  refine .mv ?_
  apply wpSq_end
  refine hK2 _ _ ?_
  refine wp_seq_k ?_
  intro K3 hK3
  refine wp_seq_k ?_
  intro K4 hK4
  refine rg [0, 1, 2, 3, 4, 5, 6, 7, 8, 9] ?_
  refine sq ?_
  refine .r0 ?_
  refine sq ?_
  refine .r4 hs.g0.f4 ?_
  refine sq ?_
  intro K hK
  have k0_1 := kb n1
  replace ha1 := ha1.k k0_1
  go_big_op
  go_fit (rzsign_any ha1 (by omega))
  rintro e w_2 ⟨rfl, hb_2⟩
  replace hs := hs.bl hb_2
  refine hK _ _ rfl trivial ?_
  clear hK K
  refine sq ?_
  refine .r0 ?_
  refine sq ?_
  refine .mv ?_
  refine sq ?_
  refine .r0 ?_
  refine sq ?_
  refine .r4 hs.g0.f4 ?_
  refine sq ?_
  intro K hK
  have k0_2 := k0_1.b hb_2
  replace ha2 := ha2.k k0_2
  go_big_op
  go_fit (rzsign_any ha2 (by omega))
  rintro e w_3 ⟨rfl, hb_3⟩
  replace hs := hs.bl hb_3
  refine hK _ _ rfl trivial ?_
  clear hK K
  refine sq ?_
  refine .r0 ?_
  refine sq ?_
  refine .r0 ?_
  apply wpSq_end
  refine hK4 _ _ ?_
  refine cf ?_
  refine wp_skip ?_
  refine hK3 _ _ ?_
  refine wp_seq_k ?_
  intro K5 hK5
  refine wp_seq_k ?_
  intro K6 hK6
  refine rg [0, 1, 2, 3] ?_
  refine sq ?_
  refine .r0 ?_
  refine sq ?_
  refine .r4 hs.g0.f4 ?_
  refine sq ?_
  intro K hK
  have k2_3 := kb hb_3
  replace ha2 := ha2.k k2_3
  go_big_op
  go_fit (rzsign_any ha2 (by omega))
  rintro e w_4 ⟨rfl, hb_4⟩
  replace hs := hs.bl hb_4
  refine hK _ _ rfl trivial ?_
  clear hK K
  refine sq ?_
  refine .r0 ?_
  apply wpSq_end
  refine hK6 _ _ ?_
  refine cf ?_
  refine wp_skip ?_
  refine hK5 _ _ ?_
  refine wp_seq_k ?_
  intro K7 hK7
  refine wp_seq_k ?_
  intro K8 hK8
  refine rg [0, 1, 2, 3] ?_
  refine sq ?_
  refine .r0 ?_
  refine sq ?_
  refine .r4 hs.g0.f4 ?_
  refine sq ?_
  intro K hK
  have k3_4 := kb hb_4
  replace ha2 := ha2.k k3_4
  go_big_op
  go_fit (rzsign_any ha2 (by omega))
  rintro e w_5 ⟨rfl, hb_5⟩
  replace hs := hs.bl hb_5
  refine hK _ _ rfl trivial ?_
  clear hK K
  refine sq ?_
  refine .r0 ?_
  apply wpSq_end
  refine hK8 _ _ ?_
  refine cf ?_
  refine wp_seq_k ?_
  intro K9 hK9
  refine rg [0, 1] ?_
  refine sq ?_
  refine .mv ?_
  refine sq ?_
  refine .r0 ?_
  apply wpSq_end
  refine hK9 _ _ ?_
  refine wp_cond_false (congrArg Value.bool (show _ = false from (by decide +kernel))) ?_
  refine wp_skip ?_
  refine hK7 _ _ ?_
  refine wp_seq_k ?_
  intro K10 hK10
  refine rg [0, 1, 2, 3, 4] ?_
  refine sq ?_
  refine .r0 ?_
  refine sq ?_
  refine .r4 hs.g0.f4 ?_
  refine sq ?_
  intro K hK
  have k4_5 := kb hb_5
  replace ha2 := ha2.k k4_5
  go_big_op
  go_fit (rabs_any ha2 (by omega))
  rintro e w_6 ⟨v_n, rfl, n, hb_6⟩
  replace hs := hs.bl hb_6
  replace n := n.rd
  obtain ⟨n_n, o_n, k_n, c_n, rfl⟩ := n.open2
  have Ln := hide (n.lenOf (HL.out))
  refine hK _ _ rfl trivial ?_
  clear hK K
  refine sq ?_
  refine .al hs ?_; clear hs; intro p_b2 w_7 hs n7 kb_b2
  refine sq ?_
  refine .s2 hs.g0 (fun _ => hs.u0 kb_b2) ?_; clear hs; intro w_8 hs hd8 ho8
  apply wpSq_end
  refine hK10 _ _ ?_
  refine wp_seq_k ?_
  intro K11 hK11
  refine wp_seq_k ?_
  intro K12 hK12
  refine wp_region_f4 [(0, false), (1, true), (2, true), (3, false)] [] [] (fun _ => default) [0, 99, 99, 99] [] (.c hs.g0 .n) fn fun w_9 n9 => ?_
  replace hs := hs.bl n9
  refine f2 ?_
  refine fl fun w_10 n10 => ?_
  replace hs := hs.bl n10
  intro K hK
  go_big_op
  go_fit (ri_any 1 _ (by decide) (by decide))
  rintro e w_11 ⟨v_o, rfl, o, hb_11⟩
  replace hs := hs.bl hb_11
  replace o := o.rd
  obtain ⟨n_o, o_o, k_o, c_o, rfl⟩ := o.open2
  have Lo := hide (o.lenOf (zlen_i (1 : Int) (by decide) (by decide)))
  refine hK _ _ rfl ⟨hb_11, (And.intro hs.g0 trivial)⟩ ?_
  clear hK K
  refine fl fun w_12 n12 => ?_
  replace hs := hs.bl n12
  intro K hK
  have k6_12 := (((((kb n7).o hd8 ho8).b n9).b n10).b hb_11).b n12
  replace n := n.k k6_12
  have k11_12 := kb n12
  replace o := o.k k11_12
  go_big_op
  go_fit (rzcmp_any (n.zn HL.out) (o.zn Lo.out) (by omega) (by omega))
  rintro e w_13 ⟨rfl, hb_13⟩
  replace hs := hs.bl hb_13
  refine hK _ _ rfl ⟨hb_13, (And.intro hs.g0 trivial)⟩ ?_
  clear hK K
  refine f0 ?_
  refine e0 hs ?_; clear hs; intro w_14 hs n14
  apply wpTail_end
  refine hK12 _ _ ?_
  refine cf ?_
  refine wp_skip ?_
  refine hK11 _ _ ?_
  refine wp_seq_k ?_
  intro K13 hK13
  refine rg [0, 1, 2] ?_
  refine sq ?_
  refine .mv ?_
  refine sq ?_
  refine .r0 ?_
  refine sq ?_
  refine .mv ?_
  apply wpSq_end
  refine hK13 _ _ ?_
  refine wp_ret ?_
  try dsimp only [Exit.then, Exit.inBlock]
  refine bodyPost_ret (v := (.string (⟨#[]⟩ ++ ⟨#[105]⟩))) (by simp [results, Tryz.results22, go_sem]) rfl ?_
  have hb := hs.b
  exact ⟨by rw [show gts x y = _ from rfl]; unfold gts gRe gSg gAm; (rw [if_neg (show ¬ y = 0 by have := HY1.out; omega), if_pos HX1.out, if_neg (show ¬ y < 0 by have := HY1.out; omega), if_pos HX1.out, if_neg (show ¬ 1 < bitsN y.natAbs by rw [one_bit]; have := H11.out; omega)]) <;> exact congrArg (fun z => Ending.returned (Value.string z)) (ext_l (by simp)), hb⟩
set_option maxHeartbeats 4000000 in
set_option maxRecDepth 20000 in
theorem rt_zpn (ha : PN w va x l y m) (hl : l ≤ 10000000) (hm : m ≤ 10000000) (hx : x = 0) (hy : 0 < y) (h1 : y.natAbs ≠ 1) :
    Calls Tryz.prog 22 #[va] w fun e w' => e = .returned (.string (gts x y)) ∧ Below w.heap.size w w' := by
  have HX1 := hide hx
  have HY1 := hide hy
  have H11 := hide h1
  have sx : ((x.sign : Int) != 0) = false := by rw [hx]; rfl
  have sy : ((y.sign : Int) == 0) = false := by rw [beq_eq_false_iff_ne]; exact fun h => by have := Int.sign_eq_zero_iff_zero.1 h; omega
  have sn : ((y.sign : Int) < 0) = False := eq_false (by rw [Int.sign_eq_one_of_pos hy]; decide)
  obtain ⟨X, hX⟩ : ∃ X, zts x = X := ⟨_, rfl⟩
  have HX := hide hX
  have xe : (X.toList == []) = false := by rw [← hX]; exact zts_ne x
  have xn : (X.toList != []) = true := by rw [bne, xe]; rfl
  have xz : X.size ≤ 100000100 := by rw [← hX]; exact Nat.le_trans (zts_size ha.len1) (by omega)
  clear hX
  obtain ⟨N, hN⟩ : ∃ N, zts (y.natAbs : Int) = N := ⟨_, rfl⟩
  have HN := hide hN
  have nz : N.size ≤ 100000100 := by rw [← hN]; exact Nat.le_trans (zts_size (l := m) (by rw [Int.natAbs_natCast]; exact ha.len2)) (by omega)
  clear hN
  have HL := hide (show (dig ((y.natAbs : Nat) : Int).natAbs).length ≤ m by rw [Int.natAbs_natCast]; exact ha.len2)
  have cz : ((zcmp ((y.natAbs : Nat) : Int) 1 : Int) != 0) = true := by rw [bne_iff_ne]; unfold zcmp; split; decide; rw [if_neg (by omega)]; decide
  clear hx hy h1
  obtain ⟨n_0a, o_0a, k_0a, c_0a, n_0b, o_0b, k_0b, c_0b, rfl, ha1, ha2⟩ := ha
  go_enter Tryz.func22, Tryz.ntmps22
  have hs := St.nil w
  refine wp_seq_k ?_
  intro K1 hK1
  refine rg [0, 1] ?_
  refine sq ?_
  refine .al hs ?_; clear hs; intro p_b1 w_1 hs n1 kb_b1
  refine sq ?_
  refine .mv ?_
  apply wpSq_end
  refine hK1 _ _ ?_
  refine wp_seq_k ?_
  intro K2 hK2
  refine rg [0] ?_
  refine sq ?_
  refine .mv ?_
  apply wpSq_end
  refine hK2 _ _ ?_
  refine wp_seq_k ?_
  intro K3 hK3
  refine wp_seq_k ?_
  intro K4 hK4
  refine rg [0, 1, 2, 3, 4, 5, 6, 7, 8, 9] ?_
  refine sq ?_
  refine .r0 ?_
  refine sq ?_
  refine .r4 hs.g0.f4 ?_
  refine sq ?_
  intro K hK
  have k0_1 := kb n1
  replace ha1 := ha1.k k0_1
  go_big_op
  go_fit (rzsign_any ha1 (by omega))
  rintro e w_2 ⟨rfl, hb_2⟩
  replace hs := hs.bl hb_2
  refine hK _ _ rfl trivial ?_
  clear hK K
  refine sq ?_
  refine .r0 ?_
  refine sq ?_
  refine .mv ?_
  refine sq ?_
  refine .r0 ?_
  refine sq ?_
  refine .r4 hs.g0.f4 ?_
  refine sq ?_
  intro K hK
  have k0_2 := k0_1.b hb_2
  replace ha2 := ha2.k k0_2
  go_big_op
  go_fit (rzsign_any ha2 (by omega))
  rintro e w_3 ⟨rfl, hb_3⟩
  replace hs := hs.bl hb_3
  refine hK _ _ rfl trivial ?_
  clear hK K
  refine sq ?_
  refine .r0 ?_
  refine sq ?_
  refine .r0 ?_
  apply wpSq_end
  refine hK4 _ _ ?_
  refine cf ?_
  refine wp_skip ?_
  refine hK3 _ _ ?_
  refine wp_seq_k ?_
  intro K5 hK5
  refine wp_seq_k ?_
  intro K6 hK6
  refine rg [0, 1, 2, 3] ?_
  refine sq ?_
  refine .r0 ?_
  refine sq ?_
  refine .r4 hs.g0.f4 ?_
  refine sq ?_
  intro K hK
  have k2_3 := kb hb_3
  replace ha2 := ha2.k k2_3
  go_big_op
  go_fit (rzsign_any ha2 (by omega))
  rintro e w_4 ⟨rfl, hb_4⟩
  replace hs := hs.bl hb_4
  refine hK _ _ rfl trivial ?_
  clear hK K
  refine sq ?_
  refine .r0 ?_
  apply wpSq_end
  refine hK6 _ _ ?_
  refine cf ?_
  refine wp_skip ?_
  refine hK5 _ _ ?_
  refine wp_seq_k ?_
  intro K7 hK7
  refine wp_seq_k ?_
  intro K8 hK8
  refine rg [0, 1, 2, 3] ?_
  refine sq ?_
  refine .r0 ?_
  refine sq ?_
  refine .r4 hs.g0.f4 ?_
  refine sq ?_
  intro K hK
  have k3_4 := kb hb_4
  replace ha2 := ha2.k k3_4
  go_big_op
  go_fit (rzsign_any ha2 (by omega))
  rintro e w_5 ⟨rfl, hb_5⟩
  replace hs := hs.bl hb_5
  refine hK _ _ rfl trivial ?_
  clear hK K
  refine sq ?_
  refine .r0 ?_
  apply wpSq_end
  refine hK8 _ _ ?_
  refine cf ?_
  refine wp_seq_k ?_
  intro K9 hK9
  refine rg [0, 1] ?_
  refine sq ?_
  refine .mv ?_
  refine sq ?_
  refine .r0 ?_
  apply wpSq_end
  refine hK9 _ _ ?_
  refine wp_cond_false (congrArg Value.bool (show _ = false from (by decide +kernel))) ?_
  refine wp_skip ?_
  refine hK7 _ _ ?_
  refine wp_seq_k ?_
  intro K10 hK10
  refine rg [0, 1, 2, 3, 4] ?_
  refine sq ?_
  refine .r0 ?_
  refine sq ?_
  refine .r4 hs.g0.f4 ?_
  refine sq ?_
  intro K hK
  have k4_5 := kb hb_5
  replace ha2 := ha2.k k4_5
  go_big_op
  go_fit (rabs_any ha2 (by omega))
  rintro e w_6 ⟨v_n, rfl, n, hb_6⟩
  replace hs := hs.bl hb_6
  replace n := n.rd
  obtain ⟨n_n, o_n, k_n, c_n, rfl⟩ := n.open2
  have Ln := hide (n.lenOf (HL.out))
  refine hK _ _ rfl trivial ?_
  clear hK K
  refine sq ?_
  refine .al hs ?_; clear hs; intro p_b2 w_7 hs n7 kb_b2
  refine sq ?_
  refine .s2 hs.g0 (fun _ => hs.u0 kb_b2) ?_; clear hs; intro w_8 hs hd8 ho8
  apply wpSq_end
  refine hK10 _ _ ?_
  refine wp_seq_k ?_
  intro K11 hK11
  refine wp_seq_k ?_
  intro K12 hK12
  refine wp_region_f4 [(0, false), (1, true), (2, true), (3, false)] [] [] (fun _ => default) [0, 99, 99, 99] [] (.c hs.g0 .n) fn fun w_9 n9 => ?_
  replace hs := hs.bl n9
  refine f2 ?_
  refine fl fun w_10 n10 => ?_
  replace hs := hs.bl n10
  intro K hK
  go_big_op
  go_fit (ri_any 1 _ (by decide) (by decide))
  rintro e w_11 ⟨v_o, rfl, o, hb_11⟩
  replace hs := hs.bl hb_11
  replace o := o.rd
  obtain ⟨n_o, o_o, k_o, c_o, rfl⟩ := o.open2
  have Lo := hide (o.lenOf (zlen_i (1 : Int) (by decide) (by decide)))
  refine hK _ _ rfl ⟨hb_11, (And.intro hs.g0 trivial)⟩ ?_
  clear hK K
  refine fl fun w_12 n12 => ?_
  replace hs := hs.bl n12
  intro K hK
  have k6_12 := (((((kb n7).o hd8 ho8).b n9).b n10).b hb_11).b n12
  replace n := n.k k6_12
  have k11_12 := kb n12
  replace o := o.k k11_12
  go_big_op
  go_fit (rzcmp_any (n.zn HL.out) (o.zn Lo.out) (by omega) (by omega))
  rintro e w_13 ⟨rfl, hb_13⟩
  replace hs := hs.bl hb_13
  refine hK _ _ rfl ⟨hb_13, (And.intro hs.g0 trivial)⟩ ?_
  clear hK K
  refine f0 ?_
  refine e0 hs ?_; clear hs; intro w_14 hs n14
  apply wpTail_end
  refine hK12 _ _ ?_
  refine ct ?_
  refine rg [0, 1, 2, 3, 4] ?_
  refine sq ?_
  refine .mv ?_
  refine sq ?_
  refine .r2 hs.g0.f2 ?_
  refine sq ?_
  intro K hK
  have k12_14 := (kb hb_13).b n14
  replace n := n.k k12_14
  go_big_op
  go_fit (rztext_s (n.zn HL.out) (by omega))
  rintro e w_15 ⟨rfl, hb_15⟩
  replace hs := hs.bl hb_15
  rw [HN.out]
  refine hK _ _ rfl trivial ?_
  clear hK K
  refine sq ?_
  refine .r0 ?_
  refine sq ?_
  refine .mv ?_
  apply wpSq_end
  refine hK11 _ _ ?_
  refine wp_seq_k ?_
  intro K13 hK13
  refine rg [0, 1, 2] ?_
  refine sq ?_
  refine .mv ?_
  refine sq ?_
  refine .r0 ?_
  refine sq ?_
  refine .mv ?_
  apply wpSq_end
  refine hK13 _ _ ?_
  refine wp_ret ?_
  try dsimp only [Exit.then, Exit.inBlock]
  refine bodyPost_ret (v := (.string (⟨#[]⟩ ++ N ++ ⟨#[105]⟩))) (by simp [results, Tryz.results22, go_sem]) rfl ?_
  have hb := hs.b
  exact ⟨by rw [← HN.out, show gts x y = _ from rfl]; unfold gts gRe gSg gAm; (rw [if_neg (show ¬ y = 0 by have := HY1.out; omega), if_pos HX1.out, if_neg (show ¬ y < 0 by have := HY1.out; omega), if_pos HX1.out, if_pos (show 1 < bitsN y.natAbs by rw [one_bit]; have := H11.out; have := HY1.out; omega)]) <;> exact congrArg (fun z => Ending.returned (Value.string z)) (ext_l (by simp)), hb⟩
set_option maxHeartbeats 4000000 in
set_option maxRecDepth 20000 in
theorem rt_x0 (ha : PN w va x l y m) (hl : l ≤ 10000000) (hm : m ≤ 10000000) (hx : x ≠ 0) (hy : y = 0) :
    Calls Tryz.prog 22 #[va] w fun e w' => e = .returned (.string (gts x y)) ∧ Below w.heap.size w w' := by
  have HX1 := hide hx
  have HY1 := hide hy
  have sx : ((x.sign : Int) != 0) = true := by rw [bne_iff_ne]; exact fun h => hx (Int.sign_eq_zero_iff_zero.1 h)
  have sy : ((y.sign : Int) == 0) = true := by rw [hy]; rfl
  obtain ⟨X, hX⟩ : ∃ X, zts x = X := ⟨_, rfl⟩
  have HX := hide hX
  have xe : (X.toList == []) = false := by rw [← hX]; exact zts_ne x
  have xn : (X.toList != []) = true := by rw [bne, xe]; rfl
  have xz : X.size ≤ 100000100 := by rw [← hX]; exact Nat.le_trans (zts_size ha.len1) (by omega)
  clear hX
  clear hx hy
  obtain ⟨n_0a, o_0a, k_0a, c_0a, n_0b, o_0b, k_0b, c_0b, rfl, ha1, ha2⟩ := ha
  go_enter Tryz.func22, Tryz.ntmps22
  have hs := St.nil w
  refine wp_seq_k ?_
  intro K1 hK1
  refine rg [0, 1] ?_
  refine sq ?_
  refine .al hs ?_; clear hs; intro p_b1 w_1 hs n1 kb_b1
  refine sq ?_
  refine .mv ?_
  apply wpSq_end
  refine hK1 _ _ ?_
  refine wp_seq_k ?_
  intro K2 hK2
  refine rg [0] ?_
  refine sq ?_
  refine .mv ?_
  apply wpSq_end
  refine hK2 _ _ ?_
  refine wp_seq_k ?_
  intro K3 hK3
  refine wp_seq_k ?_
  intro K4 hK4
  refine rg [0, 1, 2, 3, 4, 5, 6, 7, 8, 9] ?_
  refine sq ?_
  refine .r0 ?_
  refine sq ?_
  refine .r4 hs.g0.f4 ?_
  refine sq ?_
  intro K hK
  have k0_1 := kb n1
  replace ha1 := ha1.k k0_1
  go_big_op
  go_fit (rzsign_any ha1 (by omega))
  rintro e w_2 ⟨rfl, hb_2⟩
  replace hs := hs.bl hb_2
  refine hK _ _ rfl trivial ?_
  clear hK K
  refine sq ?_
  refine .r0 ?_
  refine sq ?_
  refine .mv ?_
  refine sk ?_
  refine sk ?_
  refine sk ?_
  refine sk ?_
  refine sq ?_
  refine .r0 ?_
  apply wpSq_end
  refine hK4 _ _ ?_
  refine ct ?_
  refine rg [0, 1, 2, 3] ?_
  refine sq ?_
  refine .r0 ?_
  refine sq ?_
  refine .r4 hs.g0.f4 ?_
  refine sq ?_
  intro K hK
  have k1_2 := kb hb_2
  replace ha1 := ha1.k k1_2
  go_big_op
  go_fit (rztext_s ha1 (by omega))
  rintro e w_3 ⟨rfl, hb_3⟩
  replace hs := hs.bl hb_3
  rw [HX.out]
  refine hK _ _ rfl trivial ?_
  clear hK K
  refine sq ?_
  refine .mv ?_
  apply wpSq_end
  refine hK3 _ _ ?_
  refine wp_seq_k ?_
  intro K5 hK5
  refine wp_seq_k ?_
  intro K6 hK6
  refine rg [0, 1, 2, 3] ?_
  refine sq ?_
  refine .r0 ?_
  refine sq ?_
  refine .r4 hs.g0.f4 ?_
  refine sq ?_
  intro K hK
  have k0_3 := (k0_1.b hb_2).b hb_3
  replace ha2 := ha2.k k0_3
  go_big_op
  go_fit (rzsign_any ha2 (by omega))
  rintro e w_4 ⟨rfl, hb_4⟩
  replace hs := hs.bl hb_4
  refine hK _ _ rfl trivial ?_
  clear hK K
  refine sq ?_
  refine .r0 ?_
  apply wpSq_end
  refine hK6 _ _ ?_
  refine ct ?_
  refine wp_seq_k ?_
  intro K7 hK7
  refine rg [0, 1] ?_
  refine sq ?_
  refine .mv ?_
  refine sq ?_
  refine .mv ?_
  apply wpSq_end
  refine hK7 _ _ ?_
  refine wp_ret ?_
  try dsimp only [Exit.then, Exit.inBlock]
  refine bodyPost_ret (v := (.string X)) (by simp [results, Tryz.results22, go_sem]) rfl ?_
  have hb := hs.b
  exact ⟨by rw [← HX.out, HY1.out]; unfold gts; rw [if_pos rfl], hb⟩
set_option maxHeartbeats 4000000 in
set_option maxRecDepth 20000 in
theorem rt_xm1 (ha : PN w va x l y m) (hl : l ≤ 10000000) (hm : m ≤ 10000000) (hx : x ≠ 0) (hy : y < 0) (h1 : y.natAbs = 1) :
    Calls Tryz.prog 22 #[va] w fun e w' => e = .returned (.string (gts x y)) ∧ Below w.heap.size w w' := by
  have HX1 := hide hx
  have HY1 := hide hy
  have H11 := hide h1
  have sx : ((x.sign : Int) != 0) = true := by rw [bne_iff_ne]; exact fun h => hx (Int.sign_eq_zero_iff_zero.1 h)
  have sy : ((y.sign : Int) == 0) = false := by rw [beq_eq_false_iff_ne]; exact fun h => by have := Int.sign_eq_zero_iff_zero.1 h; omega
  have sn : ((y.sign : Int) < 0) = True := eq_true (by rw [Int.sign_eq_neg_one_of_neg hy]; decide)
  obtain ⟨X, hX⟩ : ∃ X, zts x = X := ⟨_, rfl⟩
  have HX := hide hX
  have xe : (X.toList == []) = false := by rw [← hX]; exact zts_ne x
  have xn : (X.toList != []) = true := by rw [bne, xe]; rfl
  have xz : X.size ≤ 100000100 := by rw [← hX]; exact Nat.le_trans (zts_size ha.len1) (by omega)
  clear hX
  obtain ⟨N, hN⟩ : ∃ N, zts (y.natAbs : Int) = N := ⟨_, rfl⟩
  have HN := hide hN
  have nz : N.size ≤ 100000100 := by rw [← hN]; exact Nat.le_trans (zts_size (l := m) (by rw [Int.natAbs_natCast]; exact ha.len2)) (by omega)
  clear hN
  have HL := hide (show (dig ((y.natAbs : Nat) : Int).natAbs).length ≤ m by rw [Int.natAbs_natCast]; exact ha.len2)
  have cz : ((zcmp ((y.natAbs : Nat) : Int) 1 : Int) != 0) = false := by rw [h1]; rfl
  clear hx hy h1
  obtain ⟨n_0a, o_0a, k_0a, c_0a, n_0b, o_0b, k_0b, c_0b, rfl, ha1, ha2⟩ := ha
  go_enter Tryz.func22, Tryz.ntmps22
  have hs := St.nil w
  refine wp_seq_k ?_
  intro K1 hK1
  refine rg [0, 1] ?_
  refine sq ?_
  refine .al hs ?_; clear hs; intro p_b1 w_1 hs n1 kb_b1
  refine sq ?_
  refine .mv ?_
  apply wpSq_end
  refine hK1 _ _ ?_
  refine wp_seq_k ?_
  intro K2 hK2
  refine rg [0] ?_
  refine sq ?_
  refine .mv ?_
  apply wpSq_end
  refine hK2 _ _ ?_
  refine wp_seq_k ?_
  intro K3 hK3
  refine wp_seq_k ?_
  intro K4 hK4
  refine rg [0, 1, 2, 3, 4, 5, 6, 7, 8, 9] ?_
  refine sq ?_
  refine .r0 ?_
  refine sq ?_
  refine .r4 hs.g0.f4 ?_
  refine sq ?_
  intro K hK
  have k0_1 := kb n1
  replace ha1 := ha1.k k0_1
  go_big_op
  go_fit (rzsign_any ha1 (by omega))
  rintro e w_2 ⟨rfl, hb_2⟩
  replace hs := hs.bl hb_2
  refine hK _ _ rfl trivial ?_
  clear hK K
  refine sq ?_
  refine .r0 ?_
  refine sq ?_
  refine .mv ?_
  refine sk ?_
  refine sk ?_
  refine sk ?_
  refine sk ?_
  refine sq ?_
  refine .r0 ?_
  apply wpSq_end
  refine hK4 _ _ ?_
  refine ct ?_
  refine rg [0, 1, 2, 3] ?_
  refine sq ?_
  refine .r0 ?_
  refine sq ?_
  refine .r4 hs.g0.f4 ?_
  refine sq ?_
  intro K hK
  have k1_2 := kb hb_2
  replace ha1 := ha1.k k1_2
  go_big_op
  go_fit (rztext_s ha1 (by omega))
  rintro e w_3 ⟨rfl, hb_3⟩
  replace hs := hs.bl hb_3
  rw [HX.out]
  refine hK _ _ rfl trivial ?_
  clear hK K
  refine sq ?_
  refine .mv ?_
  apply wpSq_end
  refine hK3 _ _ ?_
  refine wp_seq_k ?_
  intro K5 hK5
  refine wp_seq_k ?_
  intro K6 hK6
  refine rg [0, 1, 2, 3] ?_
  refine sq ?_
  refine .r0 ?_
  refine sq ?_
  refine .r4 hs.g0.f4 ?_
  refine sq ?_
  intro K hK
  have k0_3 := (k0_1.b hb_2).b hb_3
  replace ha2 := ha2.k k0_3
  go_big_op
  go_fit (rzsign_any ha2 (by omega))
  rintro e w_4 ⟨rfl, hb_4⟩
  replace hs := hs.bl hb_4
  refine hK _ _ rfl trivial ?_
  clear hK K
  refine sq ?_
  refine .r0 ?_
  apply wpSq_end
  refine hK6 _ _ ?_
  refine cf ?_
  refine wp_skip ?_
  refine hK5 _ _ ?_
  refine wp_seq_k ?_
  intro K7 hK7
  refine wp_seq_k ?_
  intro K8 hK8
  refine rg [0, 1, 2, 3] ?_
  refine sq ?_
  refine .r0 ?_
  refine sq ?_
  refine .r4 hs.g0.f4 ?_
  refine sq ?_
  intro K hK
  have k3_4 := kb hb_4
  replace ha2 := ha2.k k3_4
  go_big_op
  go_fit (rzsign_any ha2 (by omega))
  rintro e w_5 ⟨rfl, hb_5⟩
  replace hs := hs.bl hb_5
  refine hK _ _ rfl trivial ?_
  clear hK K
  refine sq ?_
  refine .r0 ?_
  apply wpSq_end
  refine hK8 _ _ ?_
  refine ct ?_
  refine rg [0, 1, 2] ?_
  refine sq ?_
  refine .mv ?_
  refine sq ?_
  refine .r0 ?_
  refine sq ?_
  refine .mv ?_
  apply wpSq_end
  refine hK7 _ _ ?_
  refine wp_seq_k ?_
  intro K9 hK9
  refine rg [0, 1, 2, 3, 4] ?_
  refine sq ?_
  refine .r0 ?_
  refine sq ?_
  refine .r4 hs.g0.f4 ?_
  refine sq ?_
  intro K hK
  have k4_5 := kb hb_5
  replace ha2 := ha2.k k4_5
  go_big_op
  go_fit (rabs_any ha2 (by omega))
  rintro e w_6 ⟨v_n, rfl, n, hb_6⟩
  replace hs := hs.bl hb_6
  replace n := n.rd
  obtain ⟨n_n, o_n, k_n, c_n, rfl⟩ := n.open2
  have Ln := hide (n.lenOf (HL.out))
  refine hK _ _ rfl trivial ?_
  clear hK K
  refine sq ?_
  refine .al hs ?_; clear hs; intro p_b2 w_7 hs n7 kb_b2
  refine sq ?_
  refine .s2 hs.g0 (fun _ => hs.u0 kb_b2) ?_; clear hs; intro w_8 hs hd8 ho8
  apply wpSq_end
  refine hK9 _ _ ?_
  refine wp_seq_k ?_
  intro K10 hK10
  refine wp_seq_k ?_
  intro K11 hK11
  refine wp_region_f4 [(0, false), (1, true), (2, true), (3, false)] [] [] (fun _ => default) [0, 99, 99, 99] [] (.c hs.g0 .n) fn fun w_9 n9 => ?_
  replace hs := hs.bl n9
  refine f2 ?_
  refine fl fun w_10 n10 => ?_
  replace hs := hs.bl n10
  intro K hK
  go_big_op
  go_fit (ri_any 1 _ (by decide) (by decide))
  rintro e w_11 ⟨v_o, rfl, o, hb_11⟩
  replace hs := hs.bl hb_11
  replace o := o.rd
  obtain ⟨n_o, o_o, k_o, c_o, rfl⟩ := o.open2
  have Lo := hide (o.lenOf (zlen_i (1 : Int) (by decide) (by decide)))
  refine hK _ _ rfl ⟨hb_11, (And.intro hs.g0 trivial)⟩ ?_
  clear hK K
  refine fl fun w_12 n12 => ?_
  replace hs := hs.bl n12
  intro K hK
  have k6_12 := (((((kb n7).o hd8 ho8).b n9).b n10).b hb_11).b n12
  replace n := n.k k6_12
  have k11_12 := kb n12
  replace o := o.k k11_12
  go_big_op
  go_fit (rzcmp_any (n.zn HL.out) (o.zn Lo.out) (by omega) (by omega))
  rintro e w_13 ⟨rfl, hb_13⟩
  replace hs := hs.bl hb_13
  refine hK _ _ rfl ⟨hb_13, (And.intro hs.g0 trivial)⟩ ?_
  clear hK K
  refine f0 ?_
  refine e0 hs ?_; clear hs; intro w_14 hs n14
  apply wpTail_end
  refine hK11 _ _ ?_
  refine cf ?_
  refine wp_skip ?_
  refine hK10 _ _ ?_
  refine wp_seq_k ?_
  intro K12 hK12
  refine rg [0, 1, 2] ?_
  refine sq ?_
  refine .mv ?_
  refine sq ?_
  refine .r0 ?_
  refine sq ?_
  refine .mv ?_
  apply wpSq_end
  refine hK12 _ _ ?_
  refine wp_ret ?_
  try dsimp only [Exit.then, Exit.inBlock]
  refine bodyPost_ret (v := (.string (X ++ ⟨#[45]⟩ ++ ⟨#[105]⟩))) (by simp [results, Tryz.results22, go_sem]) rfl ?_
  have hb := hs.b
  exact ⟨by rw [← HX.out, show gts x y = _ from rfl]; unfold gts gRe gSg gAm; (rw [if_neg (show ¬ y = 0 by have := HY1.out; omega), if_neg HX1.out, if_pos HY1.out, if_neg (show ¬ 1 < bitsN y.natAbs by rw [one_bit]; have := H11.out; omega)]) <;> exact congrArg (fun z => Ending.returned (Value.string z)) (ext_l (by simp)), hb⟩
set_option maxHeartbeats 4000000 in
set_option maxRecDepth 20000 in
theorem rt_xmn (ha : PN w va x l y m) (hl : l ≤ 10000000) (hm : m ≤ 10000000) (hx : x ≠ 0) (hy : y < 0) (h1 : y.natAbs ≠ 1) :
    Calls Tryz.prog 22 #[va] w fun e w' => e = .returned (.string (gts x y)) ∧ Below w.heap.size w w' := by
  have HX1 := hide hx
  have HY1 := hide hy
  have H11 := hide h1
  have sx : ((x.sign : Int) != 0) = true := by rw [bne_iff_ne]; exact fun h => hx (Int.sign_eq_zero_iff_zero.1 h)
  have sy : ((y.sign : Int) == 0) = false := by rw [beq_eq_false_iff_ne]; exact fun h => by have := Int.sign_eq_zero_iff_zero.1 h; omega
  have sn : ((y.sign : Int) < 0) = True := eq_true (by rw [Int.sign_eq_neg_one_of_neg hy]; decide)
  obtain ⟨X, hX⟩ : ∃ X, zts x = X := ⟨_, rfl⟩
  have HX := hide hX
  have xe : (X.toList == []) = false := by rw [← hX]; exact zts_ne x
  have xn : (X.toList != []) = true := by rw [bne, xe]; rfl
  have xz : X.size ≤ 100000100 := by rw [← hX]; exact Nat.le_trans (zts_size ha.len1) (by omega)
  clear hX
  obtain ⟨N, hN⟩ : ∃ N, zts (y.natAbs : Int) = N := ⟨_, rfl⟩
  have HN := hide hN
  have nz : N.size ≤ 100000100 := by rw [← hN]; exact Nat.le_trans (zts_size (l := m) (by rw [Int.natAbs_natCast]; exact ha.len2)) (by omega)
  clear hN
  have HL := hide (show (dig ((y.natAbs : Nat) : Int).natAbs).length ≤ m by rw [Int.natAbs_natCast]; exact ha.len2)
  have cz : ((zcmp ((y.natAbs : Nat) : Int) 1 : Int) != 0) = true := by rw [bne_iff_ne]; unfold zcmp; split; decide; rw [if_neg (by omega)]; decide
  clear hx hy h1
  obtain ⟨n_0a, o_0a, k_0a, c_0a, n_0b, o_0b, k_0b, c_0b, rfl, ha1, ha2⟩ := ha
  go_enter Tryz.func22, Tryz.ntmps22
  have hs := St.nil w
  refine wp_seq_k ?_
  intro K1 hK1
  refine rg [0, 1] ?_
  refine sq ?_
  refine .al hs ?_; clear hs; intro p_b1 w_1 hs n1 kb_b1
  refine sq ?_
  refine .mv ?_
  apply wpSq_end
  refine hK1 _ _ ?_
  refine wp_seq_k ?_
  intro K2 hK2
  refine rg [0] ?_
  refine sq ?_
  refine .mv ?_
  apply wpSq_end
  refine hK2 _ _ ?_
  refine wp_seq_k ?_
  intro K3 hK3
  refine wp_seq_k ?_
  intro K4 hK4
  refine rg [0, 1, 2, 3, 4, 5, 6, 7, 8, 9] ?_
  refine sq ?_
  refine .r0 ?_
  refine sq ?_
  refine .r4 hs.g0.f4 ?_
  refine sq ?_
  intro K hK
  have k0_1 := kb n1
  replace ha1 := ha1.k k0_1
  go_big_op
  go_fit (rzsign_any ha1 (by omega))
  rintro e w_2 ⟨rfl, hb_2⟩
  replace hs := hs.bl hb_2
  refine hK _ _ rfl trivial ?_
  clear hK K
  refine sq ?_
  refine .r0 ?_
  refine sq ?_
  refine .mv ?_
  refine sk ?_
  refine sk ?_
  refine sk ?_
  refine sk ?_
  refine sq ?_
  refine .r0 ?_
  apply wpSq_end
  refine hK4 _ _ ?_
  refine ct ?_
  refine rg [0, 1, 2, 3] ?_
  refine sq ?_
  refine .r0 ?_
  refine sq ?_
  refine .r4 hs.g0.f4 ?_
  refine sq ?_
  intro K hK
  have k1_2 := kb hb_2
  replace ha1 := ha1.k k1_2
  go_big_op
  go_fit (rztext_s ha1 (by omega))
  rintro e w_3 ⟨rfl, hb_3⟩
  replace hs := hs.bl hb_3
  rw [HX.out]
  refine hK _ _ rfl trivial ?_
  clear hK K
  refine sq ?_
  refine .mv ?_
  apply wpSq_end
  refine hK3 _ _ ?_
  refine wp_seq_k ?_
  intro K5 hK5
  refine wp_seq_k ?_
  intro K6 hK6
  refine rg [0, 1, 2, 3] ?_
  refine sq ?_
  refine .r0 ?_
  refine sq ?_
  refine .r4 hs.g0.f4 ?_
  refine sq ?_
  intro K hK
  have k0_3 := (k0_1.b hb_2).b hb_3
  replace ha2 := ha2.k k0_3
  go_big_op
  go_fit (rzsign_any ha2 (by omega))
  rintro e w_4 ⟨rfl, hb_4⟩
  replace hs := hs.bl hb_4
  refine hK _ _ rfl trivial ?_
  clear hK K
  refine sq ?_
  refine .r0 ?_
  apply wpSq_end
  refine hK6 _ _ ?_
  refine cf ?_
  refine wp_skip ?_
  refine hK5 _ _ ?_
  refine wp_seq_k ?_
  intro K7 hK7
  refine wp_seq_k ?_
  intro K8 hK8
  refine rg [0, 1, 2, 3] ?_
  refine sq ?_
  refine .r0 ?_
  refine sq ?_
  refine .r4 hs.g0.f4 ?_
  refine sq ?_
  intro K hK
  have k3_4 := kb hb_4
  replace ha2 := ha2.k k3_4
  go_big_op
  go_fit (rzsign_any ha2 (by omega))
  rintro e w_5 ⟨rfl, hb_5⟩
  replace hs := hs.bl hb_5
  refine hK _ _ rfl trivial ?_
  clear hK K
  refine sq ?_
  refine .r0 ?_
  apply wpSq_end
  refine hK8 _ _ ?_
  refine ct ?_
  refine rg [0, 1, 2] ?_
  refine sq ?_
  refine .mv ?_
  refine sq ?_
  refine .r0 ?_
  refine sq ?_
  refine .mv ?_
  apply wpSq_end
  refine hK7 _ _ ?_
  refine wp_seq_k ?_
  intro K9 hK9
  refine rg [0, 1, 2, 3, 4] ?_
  refine sq ?_
  refine .r0 ?_
  refine sq ?_
  refine .r4 hs.g0.f4 ?_
  refine sq ?_
  intro K hK
  have k4_5 := kb hb_5
  replace ha2 := ha2.k k4_5
  go_big_op
  go_fit (rabs_any ha2 (by omega))
  rintro e w_6 ⟨v_n, rfl, n, hb_6⟩
  replace hs := hs.bl hb_6
  replace n := n.rd
  obtain ⟨n_n, o_n, k_n, c_n, rfl⟩ := n.open2
  have Ln := hide (n.lenOf (HL.out))
  refine hK _ _ rfl trivial ?_
  clear hK K
  refine sq ?_
  refine .al hs ?_; clear hs; intro p_b2 w_7 hs n7 kb_b2
  refine sq ?_
  refine .s2 hs.g0 (fun _ => hs.u0 kb_b2) ?_; clear hs; intro w_8 hs hd8 ho8
  apply wpSq_end
  refine hK9 _ _ ?_
  refine wp_seq_k ?_
  intro K10 hK10
  refine wp_seq_k ?_
  intro K11 hK11
  refine wp_region_f4 [(0, false), (1, true), (2, true), (3, false)] [] [] (fun _ => default) [0, 99, 99, 99] [] (.c hs.g0 .n) fn fun w_9 n9 => ?_
  replace hs := hs.bl n9
  refine f2 ?_
  refine fl fun w_10 n10 => ?_
  replace hs := hs.bl n10
  intro K hK
  go_big_op
  go_fit (ri_any 1 _ (by decide) (by decide))
  rintro e w_11 ⟨v_o, rfl, o, hb_11⟩
  replace hs := hs.bl hb_11
  replace o := o.rd
  obtain ⟨n_o, o_o, k_o, c_o, rfl⟩ := o.open2
  have Lo := hide (o.lenOf (zlen_i (1 : Int) (by decide) (by decide)))
  refine hK _ _ rfl ⟨hb_11, (And.intro hs.g0 trivial)⟩ ?_
  clear hK K
  refine fl fun w_12 n12 => ?_
  replace hs := hs.bl n12
  intro K hK
  have k6_12 := (((((kb n7).o hd8 ho8).b n9).b n10).b hb_11).b n12
  replace n := n.k k6_12
  have k11_12 := kb n12
  replace o := o.k k11_12
  go_big_op
  go_fit (rzcmp_any (n.zn HL.out) (o.zn Lo.out) (by omega) (by omega))
  rintro e w_13 ⟨rfl, hb_13⟩
  replace hs := hs.bl hb_13
  refine hK _ _ rfl ⟨hb_13, (And.intro hs.g0 trivial)⟩ ?_
  clear hK K
  refine f0 ?_
  refine e0 hs ?_; clear hs; intro w_14 hs n14
  apply wpTail_end
  refine hK11 _ _ ?_
  refine ct ?_
  refine rg [0, 1, 2, 3, 4] ?_
  refine sq ?_
  refine .mv ?_
  refine sq ?_
  refine .r2 hs.g0.f2 ?_
  refine sq ?_
  intro K hK
  have k12_14 := (kb hb_13).b n14
  replace n := n.k k12_14
  go_big_op
  go_fit (rztext_s (n.zn HL.out) (by omega))
  rintro e w_15 ⟨rfl, hb_15⟩
  replace hs := hs.bl hb_15
  rw [HN.out]
  refine hK _ _ rfl trivial ?_
  clear hK K
  refine sq ?_
  refine .r0 ?_
  refine sq ?_
  refine .mv ?_
  apply wpSq_end
  refine hK10 _ _ ?_
  refine wp_seq_k ?_
  intro K12 hK12
  refine rg [0, 1, 2] ?_
  refine sq ?_
  refine .mv ?_
  refine sq ?_
  refine .r0 ?_
  refine sq ?_
  refine .mv ?_
  apply wpSq_end
  refine hK12 _ _ ?_
  refine wp_ret ?_
  try dsimp only [Exit.then, Exit.inBlock]
  refine bodyPost_ret (v := (.string (X ++ ⟨#[45]⟩ ++ N ++ ⟨#[105]⟩))) (by simp [results, Tryz.results22, go_sem]) rfl ?_
  have hb := hs.b
  exact ⟨by rw [← HX.out, ← HN.out, show gts x y = _ from rfl]; unfold gts gRe gSg gAm; (rw [if_neg (show ¬ y = 0 by have := HY1.out; omega), if_neg HX1.out, if_pos HY1.out, if_pos (show 1 < bitsN y.natAbs by rw [one_bit]; have := H11.out; have := HY1.out; omega)]) <;> exact congrArg (fun z => Ending.returned (Value.string z)) (ext_l (by simp)), hb⟩
set_option maxHeartbeats 4000000 in
set_option maxRecDepth 20000 in
theorem rt_xp1 (ha : PN w va x l y m) (hl : l ≤ 10000000) (hm : m ≤ 10000000) (hx : x ≠ 0) (hy : 0 < y) (h1 : y.natAbs = 1) :
    Calls Tryz.prog 22 #[va] w fun e w' => e = .returned (.string (gts x y)) ∧ Below w.heap.size w w' := by
  have HX1 := hide hx
  have HY1 := hide hy
  have H11 := hide h1
  have sx : ((x.sign : Int) != 0) = true := by rw [bne_iff_ne]; exact fun h => hx (Int.sign_eq_zero_iff_zero.1 h)
  have sy : ((y.sign : Int) == 0) = false := by rw [beq_eq_false_iff_ne]; exact fun h => by have := Int.sign_eq_zero_iff_zero.1 h; omega
  have sn : ((y.sign : Int) < 0) = False := eq_false (by rw [Int.sign_eq_one_of_pos hy]; decide)
  obtain ⟨X, hX⟩ : ∃ X, zts x = X := ⟨_, rfl⟩
  have HX := hide hX
  have xe : (X.toList == []) = false := by rw [← hX]; exact zts_ne x
  have xn : (X.toList != []) = true := by rw [bne, xe]; rfl
  have xz : X.size ≤ 100000100 := by rw [← hX]; exact Nat.le_trans (zts_size ha.len1) (by omega)
  clear hX
  obtain ⟨N, hN⟩ : ∃ N, zts (y.natAbs : Int) = N := ⟨_, rfl⟩
  have HN := hide hN
  have nz : N.size ≤ 100000100 := by rw [← hN]; exact Nat.le_trans (zts_size (l := m) (by rw [Int.natAbs_natCast]; exact ha.len2)) (by omega)
  clear hN
  have HL := hide (show (dig ((y.natAbs : Nat) : Int).natAbs).length ≤ m by rw [Int.natAbs_natCast]; exact ha.len2)
  have cz : ((zcmp ((y.natAbs : Nat) : Int) 1 : Int) != 0) = false := by rw [h1]; rfl
  clear hx hy h1
  obtain ⟨n_0a, o_0a, k_0a, c_0a, n_0b, o_0b, k_0b, c_0b, rfl, ha1, ha2⟩ := ha
  go_enter Tryz.func22, Tryz.ntmps22
  have hs := St.nil w
  refine wp_seq_k ?_
  intro K1 hK1
  refine rg [0, 1] ?_
  refine sq ?_
  refine .al hs ?_; clear hs; intro p_b1 w_1 hs n1 kb_b1
  refine sq ?_
  refine .mv ?_
  apply wpSq_end
  refine hK1 _ _ ?_
  refine wp_seq_k ?_
  intro K2 hK2
  refine rg [0] ?_
  refine sq ?_
  refine .mv ?_
  apply wpSq_end
  refine hK2 _ _ ?_
  refine wp_seq_k ?_
  intro K3 hK3
  refine wp_seq_k ?_
  intro K4 hK4
  refine rg [0, 1, 2, 3, 4, 5, 6, 7, 8, 9] ?_
  refine sq ?_
  refine .r0 ?_
  refine sq ?_
  refine .r4 hs.g0.f4 ?_
  refine sq ?_
  intro K hK
  have k0_1 := kb n1
  replace ha1 := ha1.k k0_1
  go_big_op
  go_fit (rzsign_any ha1 (by omega))
  rintro e w_2 ⟨rfl, hb_2⟩
  replace hs := hs.bl hb_2
  refine hK _ _ rfl trivial ?_
  clear hK K
  refine sq ?_
  refine .r0 ?_
  refine sq ?_
  refine .mv ?_
  refine sk ?_
  refine sk ?_
  refine sk ?_
  refine sk ?_
  refine sq ?_
  refine .r0 ?_
  apply wpSq_end
  refine hK4 _ _ ?_
  refine ct ?_
  refine rg [0, 1, 2, 3] ?_
  refine sq ?_
  refine .r0 ?_
  refine sq ?_
  refine .r4 hs.g0.f4 ?_
  refine sq ?_
  intro K hK
  have k1_2 := kb hb_2
  replace ha1 := ha1.k k1_2
  go_big_op
  go_fit (rztext_s ha1 (by omega))
  rintro e w_3 ⟨rfl, hb_3⟩
  replace hs := hs.bl hb_3
  rw [HX.out]
  refine hK _ _ rfl trivial ?_
  clear hK K
  refine sq ?_
  refine .mv ?_
  apply wpSq_end
  refine hK3 _ _ ?_
  refine wp_seq_k ?_
  intro K5 hK5
  refine wp_seq_k ?_
  intro K6 hK6
  refine rg [0, 1, 2, 3] ?_
  refine sq ?_
  refine .r0 ?_
  refine sq ?_
  refine .r4 hs.g0.f4 ?_
  refine sq ?_
  intro K hK
  have k0_3 := (k0_1.b hb_2).b hb_3
  replace ha2 := ha2.k k0_3
  go_big_op
  go_fit (rzsign_any ha2 (by omega))
  rintro e w_4 ⟨rfl, hb_4⟩
  replace hs := hs.bl hb_4
  refine hK _ _ rfl trivial ?_
  clear hK K
  refine sq ?_
  refine .r0 ?_
  apply wpSq_end
  refine hK6 _ _ ?_
  refine cf ?_
  refine wp_skip ?_
  refine hK5 _ _ ?_
  refine wp_seq_k ?_
  intro K7 hK7
  refine wp_seq_k ?_
  intro K8 hK8
  refine rg [0, 1, 2, 3] ?_
  refine sq ?_
  refine .r0 ?_
  refine sq ?_
  refine .r4 hs.g0.f4 ?_
  refine sq ?_
  intro K hK
  have k3_4 := kb hb_4
  replace ha2 := ha2.k k3_4
  go_big_op
  go_fit (rzsign_any ha2 (by omega))
  rintro e w_5 ⟨rfl, hb_5⟩
  replace hs := hs.bl hb_5
  refine hK _ _ rfl trivial ?_
  clear hK K
  refine sq ?_
  refine .r0 ?_
  apply wpSq_end
  refine hK8 _ _ ?_
  refine cf ?_
  refine wp_seq_k ?_
  intro K9 hK9
  refine rg [0, 1] ?_
  refine sq ?_
  refine .mv ?_
  refine sq ?_
  refine .r0 ?_
  apply wpSq_end
  refine hK9 _ _ ?_
  refine ct ?_
  refine rg [0, 1, 2] ?_
  refine sq ?_
  refine .mv ?_
  refine sq ?_
  refine .r0 ?_
  refine sq ?_
  refine .mv ?_
  apply wpSq_end
  refine hK7 _ _ ?_
  refine wp_seq_k ?_
  intro K10 hK10
  refine rg [0, 1, 2, 3, 4] ?_
  refine sq ?_
  refine .r0 ?_
  refine sq ?_
  refine .r4 hs.g0.f4 ?_
  refine sq ?_
  intro K hK
  have k4_5 := kb hb_5
  replace ha2 := ha2.k k4_5
  go_big_op
  go_fit (rabs_any ha2 (by omega))
  rintro e w_6 ⟨v_n, rfl, n, hb_6⟩
  replace hs := hs.bl hb_6
  replace n := n.rd
  obtain ⟨n_n, o_n, k_n, c_n, rfl⟩ := n.open2
  have Ln := hide (n.lenOf (HL.out))
  refine hK _ _ rfl trivial ?_
  clear hK K
  refine sq ?_
  refine .al hs ?_; clear hs; intro p_b2 w_7 hs n7 kb_b2
  refine sq ?_
  refine .s2 hs.g0 (fun _ => hs.u0 kb_b2) ?_; clear hs; intro w_8 hs hd8 ho8
  apply wpSq_end
  refine hK10 _ _ ?_
  refine wp_seq_k ?_
  intro K11 hK11
  refine wp_seq_k ?_
  intro K12 hK12
  refine wp_region_f4 [(0, false), (1, true), (2, true), (3, false)] [] [] (fun _ => default) [0, 99, 99, 99] [] (.c hs.g0 .n) fn fun w_9 n9 => ?_
  replace hs := hs.bl n9
  refine f2 ?_
  refine fl fun w_10 n10 => ?_
  replace hs := hs.bl n10
  intro K hK
  go_big_op
  go_fit (ri_any 1 _ (by decide) (by decide))
  rintro e w_11 ⟨v_o, rfl, o, hb_11⟩
  replace hs := hs.bl hb_11
  replace o := o.rd
  obtain ⟨n_o, o_o, k_o, c_o, rfl⟩ := o.open2
  have Lo := hide (o.lenOf (zlen_i (1 : Int) (by decide) (by decide)))
  refine hK _ _ rfl ⟨hb_11, (And.intro hs.g0 trivial)⟩ ?_
  clear hK K
  refine fl fun w_12 n12 => ?_
  replace hs := hs.bl n12
  intro K hK
  have k6_12 := (((((kb n7).o hd8 ho8).b n9).b n10).b hb_11).b n12
  replace n := n.k k6_12
  have k11_12 := kb n12
  replace o := o.k k11_12
  go_big_op
  go_fit (rzcmp_any (n.zn HL.out) (o.zn Lo.out) (by omega) (by omega))
  rintro e w_13 ⟨rfl, hb_13⟩
  replace hs := hs.bl hb_13
  refine hK _ _ rfl ⟨hb_13, (And.intro hs.g0 trivial)⟩ ?_
  clear hK K
  refine f0 ?_
  refine e0 hs ?_; clear hs; intro w_14 hs n14
  apply wpTail_end
  refine hK12 _ _ ?_
  refine cf ?_
  refine wp_skip ?_
  refine hK11 _ _ ?_
  refine wp_seq_k ?_
  intro K13 hK13
  refine rg [0, 1, 2] ?_
  refine sq ?_
  refine .mv ?_
  refine sq ?_
  refine .r0 ?_
  refine sq ?_
  refine .mv ?_
  apply wpSq_end
  refine hK13 _ _ ?_
  refine wp_ret ?_
  try dsimp only [Exit.then, Exit.inBlock]
  refine bodyPost_ret (v := (.string (X ++ ⟨#[43]⟩ ++ ⟨#[105]⟩))) (by simp [results, Tryz.results22, go_sem]) rfl ?_
  have hb := hs.b
  exact ⟨by rw [← HX.out, show gts x y = _ from rfl]; unfold gts gRe gSg gAm; (rw [if_neg (show ¬ y = 0 by have := HY1.out; omega), if_neg HX1.out, if_neg (show ¬ y < 0 by have := HY1.out; omega), if_neg HX1.out, if_neg (show ¬ 1 < bitsN y.natAbs by rw [one_bit]; have := H11.out; omega)]) <;> exact congrArg (fun z => Ending.returned (Value.string z)) (ext_l (by simp)), hb⟩
set_option maxHeartbeats 4000000 in
set_option maxRecDepth 20000 in
theorem rt_xpn (ha : PN w va x l y m) (hl : l ≤ 10000000) (hm : m ≤ 10000000) (hx : x ≠ 0) (hy : 0 < y) (h1 : y.natAbs ≠ 1) :
    Calls Tryz.prog 22 #[va] w fun e w' => e = .returned (.string (gts x y)) ∧ Below w.heap.size w w' := by
  have HX1 := hide hx
  have HY1 := hide hy
  have H11 := hide h1
  have sx : ((x.sign : Int) != 0) = true := by rw [bne_iff_ne]; exact fun h => hx (Int.sign_eq_zero_iff_zero.1 h)
  have sy : ((y.sign : Int) == 0) = false := by rw [beq_eq_false_iff_ne]; exact fun h => by have := Int.sign_eq_zero_iff_zero.1 h; omega
  have sn : ((y.sign : Int) < 0) = False := eq_false (by rw [Int.sign_eq_one_of_pos hy]; decide)
  obtain ⟨X, hX⟩ : ∃ X, zts x = X := ⟨_, rfl⟩
  have HX := hide hX
  have xe : (X.toList == []) = false := by rw [← hX]; exact zts_ne x
  have xn : (X.toList != []) = true := by rw [bne, xe]; rfl
  have xz : X.size ≤ 100000100 := by rw [← hX]; exact Nat.le_trans (zts_size ha.len1) (by omega)
  clear hX
  obtain ⟨N, hN⟩ : ∃ N, zts (y.natAbs : Int) = N := ⟨_, rfl⟩
  have HN := hide hN
  have nz : N.size ≤ 100000100 := by rw [← hN]; exact Nat.le_trans (zts_size (l := m) (by rw [Int.natAbs_natCast]; exact ha.len2)) (by omega)
  clear hN
  have HL := hide (show (dig ((y.natAbs : Nat) : Int).natAbs).length ≤ m by rw [Int.natAbs_natCast]; exact ha.len2)
  have cz : ((zcmp ((y.natAbs : Nat) : Int) 1 : Int) != 0) = true := by rw [bne_iff_ne]; unfold zcmp; split; decide; rw [if_neg (by omega)]; decide
  clear hx hy h1
  obtain ⟨n_0a, o_0a, k_0a, c_0a, n_0b, o_0b, k_0b, c_0b, rfl, ha1, ha2⟩ := ha
  go_enter Tryz.func22, Tryz.ntmps22
  have hs := St.nil w
  refine wp_seq_k ?_
  intro K1 hK1
  refine rg [0, 1] ?_
  refine sq ?_
  refine .al hs ?_; clear hs; intro p_b1 w_1 hs n1 kb_b1
  refine sq ?_
  refine .mv ?_
  apply wpSq_end
  refine hK1 _ _ ?_
  refine wp_seq_k ?_
  intro K2 hK2
  refine rg [0] ?_
  refine sq ?_
  refine .mv ?_
  apply wpSq_end
  refine hK2 _ _ ?_
  refine wp_seq_k ?_
  intro K3 hK3
  refine wp_seq_k ?_
  intro K4 hK4
  refine rg [0, 1, 2, 3, 4, 5, 6, 7, 8, 9] ?_
  refine sq ?_
  refine .r0 ?_
  refine sq ?_
  refine .r4 hs.g0.f4 ?_
  refine sq ?_
  intro K hK
  have k0_1 := kb n1
  replace ha1 := ha1.k k0_1
  go_big_op
  go_fit (rzsign_any ha1 (by omega))
  rintro e w_2 ⟨rfl, hb_2⟩
  replace hs := hs.bl hb_2
  refine hK _ _ rfl trivial ?_
  clear hK K
  refine sq ?_
  refine .r0 ?_
  refine sq ?_
  refine .mv ?_
  refine sk ?_
  refine sk ?_
  refine sk ?_
  refine sk ?_
  refine sq ?_
  refine .r0 ?_
  apply wpSq_end
  refine hK4 _ _ ?_
  refine ct ?_
  refine rg [0, 1, 2, 3] ?_
  refine sq ?_
  refine .r0 ?_
  refine sq ?_
  refine .r4 hs.g0.f4 ?_
  refine sq ?_
  intro K hK
  have k1_2 := kb hb_2
  replace ha1 := ha1.k k1_2
  go_big_op
  go_fit (rztext_s ha1 (by omega))
  rintro e w_3 ⟨rfl, hb_3⟩
  replace hs := hs.bl hb_3
  rw [HX.out]
  refine hK _ _ rfl trivial ?_
  clear hK K
  refine sq ?_
  refine .mv ?_
  apply wpSq_end
  refine hK3 _ _ ?_
  refine wp_seq_k ?_
  intro K5 hK5
  refine wp_seq_k ?_
  intro K6 hK6
  refine rg [0, 1, 2, 3] ?_
  refine sq ?_
  refine .r0 ?_
  refine sq ?_
  refine .r4 hs.g0.f4 ?_
  refine sq ?_
  intro K hK
  have k0_3 := (k0_1.b hb_2).b hb_3
  replace ha2 := ha2.k k0_3
  go_big_op
  go_fit (rzsign_any ha2 (by omega))
  rintro e w_4 ⟨rfl, hb_4⟩
  replace hs := hs.bl hb_4
  refine hK _ _ rfl trivial ?_
  clear hK K
  refine sq ?_
  refine .r0 ?_
  apply wpSq_end
  refine hK6 _ _ ?_
  refine cf ?_
  refine wp_skip ?_
  refine hK5 _ _ ?_
  refine wp_seq_k ?_
  intro K7 hK7
  refine wp_seq_k ?_
  intro K8 hK8
  refine rg [0, 1, 2, 3] ?_
  refine sq ?_
  refine .r0 ?_
  refine sq ?_
  refine .r4 hs.g0.f4 ?_
  refine sq ?_
  intro K hK
  have k3_4 := kb hb_4
  replace ha2 := ha2.k k3_4
  go_big_op
  go_fit (rzsign_any ha2 (by omega))
  rintro e w_5 ⟨rfl, hb_5⟩
  replace hs := hs.bl hb_5
  refine hK _ _ rfl trivial ?_
  clear hK K
  refine sq ?_
  refine .r0 ?_
  apply wpSq_end
  refine hK8 _ _ ?_
  refine cf ?_
  refine wp_seq_k ?_
  intro K9 hK9
  refine rg [0, 1] ?_
  refine sq ?_
  refine .mv ?_
  refine sq ?_
  refine .r0 ?_
  apply wpSq_end
  refine hK9 _ _ ?_
  refine ct ?_
  refine rg [0, 1, 2] ?_
  refine sq ?_
  refine .mv ?_
  refine sq ?_
  refine .r0 ?_
  refine sq ?_
  refine .mv ?_
  apply wpSq_end
  refine hK7 _ _ ?_
  refine wp_seq_k ?_
  intro K10 hK10
  refine rg [0, 1, 2, 3, 4] ?_
  refine sq ?_
  refine .r0 ?_
  refine sq ?_
  refine .r4 hs.g0.f4 ?_
  refine sq ?_
  intro K hK
  have k4_5 := kb hb_5
  replace ha2 := ha2.k k4_5
  go_big_op
  go_fit (rabs_any ha2 (by omega))
  rintro e w_6 ⟨v_n, rfl, n, hb_6⟩
  replace hs := hs.bl hb_6
  replace n := n.rd
  obtain ⟨n_n, o_n, k_n, c_n, rfl⟩ := n.open2
  have Ln := hide (n.lenOf (HL.out))
  refine hK _ _ rfl trivial ?_
  clear hK K
  refine sq ?_
  refine .al hs ?_; clear hs; intro p_b2 w_7 hs n7 kb_b2
  refine sq ?_
  refine .s2 hs.g0 (fun _ => hs.u0 kb_b2) ?_; clear hs; intro w_8 hs hd8 ho8
  apply wpSq_end
  refine hK10 _ _ ?_
  refine wp_seq_k ?_
  intro K11 hK11
  refine wp_seq_k ?_
  intro K12 hK12
  refine wp_region_f4 [(0, false), (1, true), (2, true), (3, false)] [] [] (fun _ => default) [0, 99, 99, 99] [] (.c hs.g0 .n) fn fun w_9 n9 => ?_
  replace hs := hs.bl n9
  refine f2 ?_
  refine fl fun w_10 n10 => ?_
  replace hs := hs.bl n10
  intro K hK
  go_big_op
  go_fit (ri_any 1 _ (by decide) (by decide))
  rintro e w_11 ⟨v_o, rfl, o, hb_11⟩
  replace hs := hs.bl hb_11
  replace o := o.rd
  obtain ⟨n_o, o_o, k_o, c_o, rfl⟩ := o.open2
  have Lo := hide (o.lenOf (zlen_i (1 : Int) (by decide) (by decide)))
  refine hK _ _ rfl ⟨hb_11, (And.intro hs.g0 trivial)⟩ ?_
  clear hK K
  refine fl fun w_12 n12 => ?_
  replace hs := hs.bl n12
  intro K hK
  have k6_12 := (((((kb n7).o hd8 ho8).b n9).b n10).b hb_11).b n12
  replace n := n.k k6_12
  have k11_12 := kb n12
  replace o := o.k k11_12
  go_big_op
  go_fit (rzcmp_any (n.zn HL.out) (o.zn Lo.out) (by omega) (by omega))
  rintro e w_13 ⟨rfl, hb_13⟩
  replace hs := hs.bl hb_13
  refine hK _ _ rfl ⟨hb_13, (And.intro hs.g0 trivial)⟩ ?_
  clear hK K
  refine f0 ?_
  refine e0 hs ?_; clear hs; intro w_14 hs n14
  apply wpTail_end
  refine hK12 _ _ ?_
  refine ct ?_
  refine rg [0, 1, 2, 3, 4] ?_
  refine sq ?_
  refine .mv ?_
  refine sq ?_
  refine .r2 hs.g0.f2 ?_
  refine sq ?_
  intro K hK
  have k12_14 := (kb hb_13).b n14
  replace n := n.k k12_14
  go_big_op
  go_fit (rztext_s (n.zn HL.out) (by omega))
  rintro e w_15 ⟨rfl, hb_15⟩
  replace hs := hs.bl hb_15
  rw [HN.out]
  refine hK _ _ rfl trivial ?_
  clear hK K
  refine sq ?_
  refine .r0 ?_
  refine sq ?_
  refine .mv ?_
  apply wpSq_end
  refine hK11 _ _ ?_
  refine wp_seq_k ?_
  intro K13 hK13
  refine rg [0, 1, 2] ?_
  refine sq ?_
  refine .mv ?_
  refine sq ?_
  refine .r0 ?_
  refine sq ?_
  refine .mv ?_
  apply wpSq_end
  refine hK13 _ _ ?_
  refine wp_ret ?_
  try dsimp only [Exit.then, Exit.inBlock]
  refine bodyPost_ret (v := (.string (X ++ ⟨#[43]⟩ ++ N ++ ⟨#[105]⟩))) (by simp [results, Tryz.results22, go_sem]) rfl ?_
  have hb := hs.b
  exact ⟨by rw [← HX.out, ← HN.out, show gts x y = _ from rfl]; unfold gts gRe gSg gAm; (rw [if_neg (show ¬ y = 0 by have := HY1.out; omega), if_neg HX1.out, if_neg (show ¬ y < 0 by have := HY1.out; omega), if_neg HX1.out, if_pos (show 1 < bitsN y.natAbs by rw [one_bit]; have := H11.out; have := HY1.out; omega)]) <;> exact congrArg (fun z => Ending.returned (Value.string z)) (ext_l (by simp)), hb⟩
theorem rText_any (ha : PN w va x l y m) (hl : l ≤ 10000000) (hm : m ≤ 10000000) :
    Calls Tryz.prog 22 #[va] w fun e w' => e = .returned (.string (gts x y)) ∧ Below w.heap.size w w' := by
  by_cases hx : x = 0
  · rcases (show y = 0 ∨ y < 0 ∨ 0 < y by omega) with hy | hy | hy
    · exact rt_z0 ha hl hm hx hy
    · by_cases h1 : y.natAbs = 1
      · exact rt_zm1 ha hl hm hx hy h1
      · exact rt_zmn ha hl hm hx hy h1
    · by_cases h1 : y.natAbs = 1
      · exact rt_zp1 ha hl hm hx hy h1
      · exact rt_zpn ha hl hm hx hy h1
  · rcases (show y = 0 ∨ y < 0 ∨ 0 < y by omega) with hy | hy | hy
    · exact rt_x0 ha hl hm hx hy
    · by_cases h1 : y.natAbs = 1
      · exact rt_xm1 ha hl hm hx hy h1
      · exact rt_xmn ha hl hm hx hy h1
    · by_cases h1 : y.natAbs = 1
      · exact rt_xp1 ha hl hm hx hy h1
      · exact rt_xpn ha hl hm hx hy h1
end
section
set_option maxHeartbeats 8000000 in
set_option maxRecDepth 20000 in
theorem gparse_long (s : ByteArray) (w : World) (hsz : 65536 < s.size) :
    Calls Tryz.prog 20 #[.string s] w fun e w' => e = .returned (.tuple #[.agg #[.bool false, .slice none 0 0, .bool false, .slice none 0 0], .int .i64 12]) ∧ Below w.heap.size w w' := by
  go_enter Tryz.func20, Tryz.ntmps20
  have hs := St.nil w
  refine wp_seq_k ?_
  intro K1 hK1
  refine rg [0, 1] ?_
  refine sq ?_
  refine .al hs ?_; clear hs; intro p_b1 w_1 hs n1 kb_b1
  refine sq ?_
  refine .mv ?_
  apply wpSq_end
  refine hK1 _ _ ?_
  refine wp_scope_k 9 ?_
  intro S hSr hSn hSg
  refine wp_seq_k ?_
  intro K2 hK2
  refine wp_seq_k ?_
  intro K3 hK3
  refine rg [0, 1, 2] ?_
  refine sq ?_
  refine .mv ?_
  refine sq ?_
  refine .r0 ?_
  refine sq ?_
  refine .r0 ?_
  apply wpSq_end
  refine hK3 _ _ ?_
  refine ct ?_
  refine wp_seq_k ?_
  intro K4 hK4
  refine rg [0, 1, 2] ?_
  refine sq ?_
  refine .r0 ?_
  refine sq ?_
  refine .s4 hs.g0 (fun _ => hs.u0 kb_b1) ?_; clear hs; intro w_2 hs hd2 ho2
  refine sq ?_
  refine .mv ?_
  apply wpSq_end
  refine hK4 _ _ ?_
  refine wp_ret ?_
  refine hSr _ _ _ ?_
  try dsimp only [Exit.then, Exit.inBlock]
  obtain ⟨r0_0, r0_1, r0_2, r0_3⟩ := hs.g0.f4
  refine bodyPost_ret (v := (.tuple #[(.agg #[.bool false, .slice none 0 0, .bool false, .slice none 0 0]), (.int .i64 12)])) (by simp [results, Tryz.results20, go_sem, r0_0, r0_1, r0_2, r0_3]) rfl ?_
  have hb := hs.b
  exact ⟨rfl, hb⟩
end
end Go.Proofs.YtlomgfgedkkhkaaGreatDoor
