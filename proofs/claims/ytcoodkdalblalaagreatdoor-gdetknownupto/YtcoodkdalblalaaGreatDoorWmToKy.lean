/- gdet: matrices as answers; the law's mat. -/
import Derived.Test.YtcoodkdalblalaaGreatDoorC8ToWh
namespace Go.Proofs.YtcoodkdalblalaaGreatDoor
open Go Go.RowKit Dig
set_option linter.unusedVariables false
theorem mxmt {K n : Nat} {a : Array Value} {w : World} {v : Value} {M : List (List (Int × Int))} (h : Calls Tryz.prog K a w fun e w' => ∃ o c rs, e = .returned (.tuple #[.slice o n c, v]) ∧ rs.length = n ∧ St w (Mx w.heap.size (.slice o n c) rs) w' ∧ RD w' rs M ∧ Below w.heap.size w w') :
    Calls Tryz.prog K a w fun e w' => ∃ o c, e = .returned (.tuple #[.slice o n c, v]) ∧ MC w' o M ∧ Below w.heap.size w w' :=
  Calls.mono h fun e w' ⟨o, c, rs, h1, h2, h3, h4, h5⟩ => ⟨o, c, h1, Mx.mc0 h3 h2 h4, h5⟩
section
variable {w : World} {l n k c1 c2 : Nat} {o1 o2 : Option Addr} {Ms : List (List (Int × Int))}
set_option maxHeartbeats 4000000 in
set_option maxRecDepth 20000 in
theorem mat9_yes (h1 : MC w o1 Ms) (h2 : MN l w o2 Ms) (hn : Ms.length = n) (hl : n ≤ 1000000000) (hr : ∀ r ∈ Ms, r.length ≤ 1000000000) (hl2 : l ≤ 100000000) :
    Calls Tryz.prog 15 #[.slice o1 n c1, .int .i64 0, .slice o2 n c2, .int .i64 0] w fun e w' => e = .returned (.bool true) ∧ Below w.heap.size w w' := by
  have H1 := hide h1
  have H2 := hide h2
  clear h1 h2
  go_enter Tryz.func15, Tryz.ntmps15
  have hs := St.nil w
  refine wp_seq_k ?_
  intro K1 hK1
  refine rg [0] ?_
  refine sq ?_
  refine .mv ?_
  apply wpSq_end
  refine hK1 _ _ ?_
  refine wp_seq_k ?_
  intro K2 hK2
  refine wp_seq_k ?_
  intro K3 hK3
  refine rg [0, 1] ?_
  refine sq ?_
  refine .mv ?_
  refine sq ?_
  refine .r0 ?_
  apply wpSq_end
  refine hK3 _ _ ?_
  refine cf ?_
  refine wp_skip ?_
  refine hK2 _ _ ?_
  refine wp_seq_k ?_
  intro K4 hK4
  refine rg [0, 1, 2, 3, 4, 5, 6, 7] ?_
  refine sq ?_
  refine .mv ?_
  refine sq ?_
  refine .r0 ?_
  refine sq ?_
  refine .mv ?_
  refine sq ?_
  refine .mv ?_
  refine sq ?_
  refine .mv ?_
  refine sq ?_
  intro K hK
  have hb := hs.b
  go_big_op
  go_fit (msame_any (H1.out.bl hb) (H2.out.bl stab_n hb) hn hl hr hl2)
  rintro e w_1 ⟨rfl, hb_1⟩
  clear hb
  replace hs := hs.bl hb_1
  refine hK _ _ rfl trivial ?_
  clear hK K
  refine sq ?_
  refine .r0 ?_
  refine sq ?_
  refine .mv ?_
  apply wpSq_end
  refine hK4 _ _ ?_
  refine wp_ret ?_
  try dsimp only [Exit.then, Exit.inBlock]
  refine bodyPost_ret (v := (.bool true)) (by simp [results, Tryz.results15, go_sem]) rfl ?_
  exact ⟨rfl, hs.b⟩
end
theorem qts_12 : qts 1 2 = ⟨#[49, 47, 50]⟩ := by
  have h1 : qN 1 2 = 1 := by decide
  have h2 : qD 1 2 = 2 := by decide
  unfold qts
  rw [h1, h2, if_neg (by decide)]
  unfold zts ztx
  rw [if_neg (by decide), if_neg (by decide), show Int.natAbs 1 = 1 from rfl, show Int.natAbs 2 = 2 from rfl, dec1 1 (by decide), dec1 2 (by decide)]
  rfl
set_option linter.unusedSimpArgs false
section
variable {w : World} {op : Option Addr} {zs : List Int} {np cp : Nat}
set_option maxHeartbeats 4000000 in
set_option maxRecDepth 20000 in
theorem numbers9_any (hp : PL w op zs) (hn : zs.length = np) (hl : np ≤ 1000) (hz : ∀ z ∈ zs, -9223372036854775808 ≤ z ∧ z ≤ 9223372036854775807) :
    Calls Tryz.prog 12 #[.slice op np cp] w fun e w' => ∃ o c, e = .returned (.slice o np c) ∧ LZ w' o zs ∧ Below w.heap.size w w' := by
  obtain ⟨g, cur, ty, fz, rfl, x, hc⟩ := hp
  have HC := hide (fun i (hi : i < np) => show ∃ z : Int, zs[i]'(by omega) = z ∧ cur[i]? = some (.int .i64 z) ∧ -9223372036854775808 ≤ z ∧ z ≤ 9223372036854775807 from ⟨_, rfl, hc i (by omega), hz _ (List.getElem_mem (by omega))⟩)
  have HP := hide x
  clear hc hz x
  go_enter Tryz.func12, Tryz.ntmps12
  have hs := St.nil w
  refine wp_seq_k ?_
  intro K1 hK1
  refine rg [0] ?_
  refine sq ?_
  refine .mv ?_
  apply wpSq_end
  refine hK1 _ _ ?_
  refine wp_seq_k ?_
  intro K2 hK2
  refine rg [0] ?_
  refine sq ?_
  refine .mv ?_
  apply wpSq_end
  refine hK2 _ _ ?_
  refine wp_seq_k ?_
  intro K3 hK3
  refine wp_seq_k ?_
  intro K4 hK4
  refine rg [0] ?_
  refine sq ?_
  refine .mv ?_
  apply wpSq_end
  refine hK4 _ _ ?_
  refine wp_block ?_
  have hs := hs.l0 24 2
  have hd1 := hs.2.1
  go_loopg [3, 4] np (fun kz s3 s4 wr => ∃ (a : Nat) (o9 : Option Addr) (c9 : Nat) (xs : List Value), s4 = .int .i64 (a : Int) ∧ s3 = .slice o9 a c9 ∧ a + kz = np ∧ ZL wr xs (zs.take a) ∧ St w (ls w.heap.size 24 2 (.slice o9 a c9) a xs :: []) wr)
  case atStart => exact ⟨0, none, 0, [], rfl, rfl, by omega, ZL.nil _, hs⟩
  case round =>
  clear hs
  obtain ⟨a, o9, c9, xs, rfl, rfl, hak, hL9, hs⟩ := hrel
  by_cases ha : a < np
  · have HA := hide ha
    obtain ⟨z, hz, e5, h1, h2⟩ := HC.out a ha
    have HTK := hide (show zs.take (a + 1) = zs.take a ++ [z] by rw [← hz, List.take_succ_eq_append_getElem (by omega)])
    have xz := HP.out
    have x := HP.out.bl hs.b
    have lt_kP := HP.out.lt
    clear hz
    refine wp_seq_k ?_
    intro K5 hK5
    refine wp_seq_k ?_
    intro K6 hK6
    refine rg [0, 1, 2, 3] ?_
    refine sq ?_
    refine .mv ?_
    refine sq ?_
    refine .mv ?_
    refine sq ?_
    refine .r0 ?_
    refine sq ?_
    refine .r0 ?_
    apply wpSq_end
    refine hK6 _ _ ?_
    refine ct ?_
    refine wp_skip ?_
    refine hK5 _ _ ?_
    refine wp_seq_k ?_
    intro K7 hK7
    refine wp_block ?_
    refine rg [0, 1, 2, 3, 4, 5, 6, 7, 8] ?_
    refine sq ?_
    refine .mv ?_
    refine sq ?_
    refine .mv ?_
    refine sq ?_
    refine .mv ?_
    refine sq ?_
    refine .r0 ?_
    refine sq ?_
    refine .r1 (x.cell _ e5) ?_
    refine sq ?_
    intro K hK
    go_big_op
    go_fit (ri_any z _ h1 h2)
    rintro e w_2 ⟨v_v, rfl, v, hb_2⟩
    replace x := x.bl hb_2; replace hs := hs.bl hb_2
    replace v := v.rd
    obtain ⟨n_v, o_v, k_v, c_v, rfl⟩ := v.open2
    refine hK _ _ rfl trivial ?_
    clear hK K
    refine sq ?_
    refine .al hs ?_; clear hs; intro p_b1 w_3 hs n3 kb_b1
    replace x := x.bl n3
    refine sq ?_
    have k0_2 := (kb hb_2).b n3
    replace hL9 := hL9.k k0_2
    have k1_2 := kb n3
    replace v := v.k k1_2
    replace hL9 := hL9.snoc v
    refine .ap 1 hs hs.g0 ?_; clear hs; intro o_L_4 c_L_4 w_4 hs kp4 hw4; simp only [List.set_cons_succ, List.set_cons_zero] at hs
    replace x := x.lo lt_kP hw4
    refine sq ?_
    refine .mv ?_
    apply wpSq_end
    refine hK7 _ _ ?_
    refine rg [0, 1, 2] ?_
    refine sq ?_
    refine .mv ?_
    refine sq ?_
    refine .r0 ?_
    refine sq ?_
    refine .mv ?_
    apply wpSq_end
    have k2_3 := kp4
    replace hL9 := hL9.k k2_3
    refine ‹∀ (a' : Act) (w' : World), Handed _ _ a' w' → _› _ _ ?_
    go_roundg (gk - 1)
    case rel => exact ⟨a + 1, _, _, _, by rfl, by rfl, by omega, by rw [HTK.out]; exact hL9, hs.sub (.cons _ (List.Sublist.refl _))⟩
    case measure => omega
  · have HA := hide ha
    obtain rfl : np = a := by omega
    have HTK := hide (show zs.take np = zs by rw [← hn]; exact List.take_length)
    refine wp_seq_k ?_
    intro K5 hK5
    refine wp_seq_k ?_
    intro K6 hK6
    refine rg [0, 1, 2, 3] ?_
    refine sq ?_
    refine .mv ?_
    refine sq ?_
    refine .mv ?_
    refine sq ?_
    refine .r0 ?_
    refine sq ?_
    refine .r0 ?_
    apply wpSq_end
    refine hK6 _ _ ?_
    refine cf ?_
    refine wp_exit ?_
    refine hK3 _ _ ?_
    refine wp_seq_k ?_
    intro K7 hK7
    refine rg [0, 1] ?_
    refine sq ?_
    refine .mv ?_
    refine sq ?_
    refine .mv ?_
    apply wpSq_end
    refine hK7 _ _ ?_
    refine wp_ret ?_
    try dsimp only [Exit.then, Exit.inBlock]
    refine bodyPost_ret (v := (.slice o9 np c9)) (by simp [results, Tryz.results12, go_sem]) rfl ?_
    exact ⟨_, _, rfl, LZ.of hs.1.1.1 (HTK.out ▸ hL9) hn, hs.b⟩
end
theorem qts_01 : qts 0 1 = ⟨#[48]⟩ := by
  have h1 : qN 0 1 = 0 := by decide
  have h2 : qD 0 1 = 1 := by decide
  unfold qts
  rw [h1, h2, if_pos rfl]
  unfold zts ztx
  rw [if_neg (by decide), show Int.natAbs 0 = 0 from rfl, dec1 0 (by decide)]
  rfl
theorem qts_m12 : qts (-1) 2 = ⟨#[45, 49, 47, 50]⟩ := by
  have h1 : qN (-1) 2 = -1 := by decide
  have h2 : qD (-1) 2 = 2 := by decide
  unfold qts
  rw [h1, h2, if_neg (by decide)]
  unfold zts ztx
  rw [if_pos (by decide), if_neg (by decide), show Int.natAbs (-1) = 1 from rfl, show Int.natAbs 2 = 2 from rfl, dec1 1 (by decide), dec1 2 (by decide)]
  rfl
section
variable {w : World} {va vb : Value} {l m k n : Nat}
set_option maxHeartbeats 4000000 in
set_option maxRecDepth 20000 in
theorem gfText_x0 (ha : CN w va 1 l 2 m 0 k 1 n) (hl : l ≤ 10000000) (hm : m ≤ 10000000) (hk : k ≤ 10000000) (hn : n ≤ 10000000) (htab : Lib.TabIs Tryz.prog w p10 .u64 Lib.pow10Tab) :
    Calls Tryz.prog 17 #[va] w fun e w' => e = .returned (.tuple #[.string ⟨#[49, 47, 50]⟩, .int .i64 0]) ∧ Below w.heap.size w w' := by
  have htabs := Lib.tabBelow_of_tabIs htab
  have HR := hide qts_12
  have HI := hide qts_01
  obtain ⟨n_0a, o_0a, k_0a, c_0a, n_0b, o_0b, k_0b, c_0b, n_0c, o_0c, k_0c, c_0c, n_0d, o_0d, k_0d, c_0d, rfl, ha1, ha2, ha3, ha4⟩ := ha
  go_enter Tryz.func17, Tryz.ntmps17
  have hs := St.nil w
  refine wp_seq_k ?_
  intro K1 hK1
  refine rg [0, 1, 2] ?_
  refine sq ?_
  refine .al hs ?_; clear hs; intro p_b1 w_1 hs n1 kb_b1
  refine sq ?_
  refine .mv ?_
  refine sq ?_
  refine .mv ?_
  apply wpSq_end
  refine hK1 _ _ ?_
  refine wp_seq_k ?_
  intro K2 hK2
  refine rg [0, 1, 2, 3, 4, 5, 6, 7, 8] ?_
  refine sq ?_
  refine .r0 ?_
  refine sq ?_
  intro K hK
  have x_b1 := hs.g0
  have k0_1 := kb n1
  replace ha1 := ha1.k k0_1
  replace ha2 := ha2.k k0_1
  replace ha3 := ha3.k k0_1
  replace ha4 := ha4.k k0_1
  have hb := hs.b
  go_big_op
  go_fit (bothstring_ok (fun _ _ ↦ by kernel_rfl) (fun w1 h ↦ HR.out ▸ ctext1_ok (.mk' (x_b1.bl h) (ha1.bl h) (ha2.bl h) (ha3.bl h) (ha4.bl h)) hl hm hk hn (by decide) (htabs _ (hb.trans (h.mono hb.size)))) (fun w1 h ↦ HI.out ▸ ctext2_ok (.mk' (x_b1.bl h) (ha1.bl h) (ha2.bl h) (ha3.bl h) (ha4.bl h)) hl hm hk hn (by decide) (htabs _ (hb.trans (h.mono hb.size)))))
  rintro e w_2 ⟨rfl, hb_2⟩
  clear x_b1 hb
  replace hs := hs.bl hb_2
  refine hK _ _ rfl trivial ?_
  clear hK K
  refine sq ?_
  refine .mv ?_
  refine sq ?_
  refine .r0 ?_
  refine sq ?_
  refine .r0 ?_
  refine sq ?_
  refine .r0 ?_
  refine sq ?_
  refine .mv ?_
  refine sq ?_
  refine .mv ?_
  refine sq ?_
  refine .mv ?_
  apply wpSq_end
  refine hK2 _ _ ?_
  refine wp_seq_k ?_
  intro K3 hK3
  refine wp_seq_k ?_
  intro K4 hK4
  refine rg [0, 1, 2, 3, 4, 5] ?_
  refine sq ?_
  refine .mv ?_
  refine sq ?_
  refine .r0 ?_
  refine sq ?_
  refine .mv ?_
  refine sq ?_
  refine .mv ?_
  refine sq ?_
  refine .r0 ?_
  refine sq ?_
  refine .r0 ?_
  apply wpSq_end
  refine hK4 _ _ ?_
  refine wp_cond_true (congrArg Value.bool (show _ = true from (by decide +kernel))) ?_
  refine wp_seq_k ?_
  intro K5 hK5
  refine rg [0, 1, 2, 3] ?_
  refine sq ?_
  refine .mv ?_
  refine sq ?_
  refine .mv ?_
  refine sq ?_
  refine .mv ?_
  refine sq ?_
  refine .mv ?_
  apply wpSq_end
  refine hK5 _ _ ?_
  refine wp_ret ?_
  try dsimp only [Exit.then, Exit.inBlock]
  refine bodyPost_ret (v := (.tuple #[(.string ⟨#[49, 47, 50]⟩), (.int .i64 0)])) (by simp [results, Tryz.results17, go_sem]) rfl ?_
  have hb := hs.b
  exact ⟨rfl, hb⟩
set_option maxHeartbeats 4000000 in
set_option maxRecDepth 20000 in
theorem gfText_x1 (ha : CN w va 0 l 1 m (-1) k 2 n) (hl : l ≤ 10000000) (hm : m ≤ 10000000) (hk : k ≤ 10000000) (hn : n ≤ 10000000) (htab : Lib.TabIs Tryz.prog w p10 .u64 Lib.pow10Tab) :
    Calls Tryz.prog 17 #[va] w fun e w' => e = .returned (.tuple #[.string ⟨#[45, 49, 47, 50, 105]⟩, .int .i64 0]) ∧ Below w.heap.size w w' := by
  have htabs := Lib.tabBelow_of_tabIs htab
  have HR := hide qts_01
  have HI := hide qts_m12
  have HM := hide (show minusB ⟨#[45, 49, 47, 50]⟩ = true from by decide +kernel)
  obtain ⟨n_0a, o_0a, k_0a, c_0a, n_0b, o_0b, k_0b, c_0b, n_0c, o_0c, k_0c, c_0c, n_0d, o_0d, k_0d, c_0d, rfl, ha1, ha2, ha3, ha4⟩ := ha
  go_enter Tryz.func17, Tryz.ntmps17
  have hs := St.nil w
  refine wp_seq_k ?_
  intro K1 hK1
  refine rg [0, 1, 2] ?_
  refine sq ?_
  refine .al hs ?_; clear hs; intro p_b1 w_1 hs n1 kb_b1
  refine sq ?_
  refine .mv ?_
  refine sq ?_
  refine .mv ?_
  apply wpSq_end
  refine hK1 _ _ ?_
  refine wp_seq_k ?_
  intro K2 hK2
  refine rg [0, 1, 2, 3, 4, 5, 6, 7, 8] ?_
  refine sq ?_
  refine .r0 ?_
  refine sq ?_
  intro K hK
  have x_b1 := hs.g0
  have k0_1 := kb n1
  replace ha1 := ha1.k k0_1
  replace ha2 := ha2.k k0_1
  replace ha3 := ha3.k k0_1
  replace ha4 := ha4.k k0_1
  have hb := hs.b
  go_big_op
  go_fit (bothstring_ok (fun _ _ ↦ by kernel_rfl) (fun w1 h ↦ HR.out ▸ ctext1_ok (.mk' (x_b1.bl h) (ha1.bl h) (ha2.bl h) (ha3.bl h) (ha4.bl h)) hl hm hk hn (by decide) (htabs _ (hb.trans (h.mono hb.size)))) (fun w1 h ↦ HI.out ▸ ctext2_ok (.mk' (x_b1.bl h) (ha1.bl h) (ha2.bl h) (ha3.bl h) (ha4.bl h)) hl hm hk hn (by decide) (htabs _ (hb.trans (h.mono hb.size)))))
  rintro e w_2 ⟨rfl, hb_2⟩
  clear x_b1 hb
  replace hs := hs.bl hb_2
  refine hK _ _ rfl trivial ?_
  clear hK K
  refine sq ?_
  refine .mv ?_
  refine sq ?_
  refine .r0 ?_
  refine sq ?_
  refine .r0 ?_
  refine sq ?_
  refine .r0 ?_
  refine sq ?_
  refine .mv ?_
  refine sq ?_
  refine .mv ?_
  refine sq ?_
  refine .mv ?_
  apply wpSq_end
  refine hK2 _ _ ?_
  refine wp_seq_k ?_
  intro K3 hK3
  refine wp_seq_k ?_
  intro K4 hK4
  refine rg [0, 1, 2, 3, 4, 5] ?_
  refine sq ?_
  refine .mv ?_
  refine sq ?_
  refine .r0 ?_
  refine sq ?_
  refine .mv ?_
  refine sq ?_
  refine .mv ?_
  refine sq ?_
  refine .r0 ?_
  refine sq ?_
  refine .r0 ?_
  apply wpSq_end
  refine hK4 _ _ ?_
  refine cf ?_
  refine wp_skip ?_
  refine hK3 _ _ ?_
  refine wp_seq_k ?_
  intro K5 hK5
  refine rg [0, 1] ?_
  refine sq ?_
  refine .mv ?_
  refine sq ?_
  refine .mv ?_
  apply wpSq_end
  refine hK5 _ _ ?_
  refine wp_seq_k ?_
  intro K6 hK6
  refine wp_seq_k ?_
  intro K7 hK7
  refine rg [0, 1] ?_
  refine sq ?_
  refine .mv ?_
  refine sq ?_
  refine .r0 ?_
  apply wpSq_end
  refine hK7 _ _ ?_
  refine wp_cond_false (congrArg Value.bool (show _ = false from (by decide +kernel))) ?_
  refine wp_skip ?_
  refine hK6 _ _ ?_
  refine wp_seq_k ?_
  intro K8 hK8
  refine rg [0, 1, 2, 3, 4, 5, 6] ?_
  refine sq ?_
  refine .mv ?_
  refine sq ?_
  intro K hK
  go_big_op
  go_fit (scut1 _ _ (by decide) HM.out)
  rintro e w_3 ⟨rfl, e_3⟩
  (first | rw [e_3] | rw [← e_3]); clear e_3 w_3
  refine hK _ _ rfl trivial ?_
  clear hK K
  refine sq ?_
  refine .mv ?_
  refine sq ?_
  refine .r0 ?_
  refine sq ?_
  refine .r0 ?_
  refine sq ?_
  refine .mv ?_
  refine sq ?_
  refine .mv ?_
  apply wpSq_end
  refine hK8 _ _ ?_
  refine wp_seq_k ?_
  intro K9 hK9
  refine wp_seq_k ?_
  intro K10 hK10
  refine rg [0] ?_
  refine sq ?_
  refine .mv ?_
  apply wpSq_end
  refine hK10 _ _ ?_
  refine ct ?_
  refine rg [0] ?_
  refine sq ?_
  refine .mv ?_
  apply wpSq_end
  refine hK9 _ _ ?_
  refine wp_seq_k ?_
  intro K11 hK11
  refine wp_seq_k ?_
  intro K12 hK12
  refine rg [0, 1] ?_
  refine sq ?_
  refine .mv ?_
  refine sq ?_
  refine .r0 ?_
  apply wpSq_end
  refine hK12 _ _ ?_
  refine wp_cond_false (congrArg Value.bool (show _ = false from (by decide +kernel))) ?_
  refine wp_skip ?_
  refine hK11 _ _ ?_
  refine wp_seq_k ?_
  intro K13 hK13
  refine rg [0, 1, 2, 3, 4, 5, 6, 7] ?_
  refine sq ?_
  refine .mv ?_
  refine sq ?_
  refine .mv ?_
  refine sq ?_
  refine .r0 ?_
  refine sq ?_
  refine .mv ?_
  refine sq ?_
  refine .r0 ?_
  refine sq ?_
  refine .r0 ?_
  refine sq ?_
  refine .mv ?_
  refine sq ?_
  refine .mv ?_
  apply wpSq_end
  refine hK13 _ _ ?_
  refine wp_ret ?_
  try dsimp only [Exit.then, Exit.inBlock]
  refine bodyPost_ret (v := (.tuple #[.string (⟨#[]⟩ ++ ⟨#[45]⟩ ++ ByteArray.extract ⟨#[45, 49, 47, 50]⟩ 1 4 ++ ⟨#[105]⟩), .int .i64 0])) (by simp [results, Tryz.results17, go_sem]) rfl ?_
  have hb := hs.b
  exact ⟨by kernel_rfl, hb⟩
end
theorem bd_v {V : List (Int × Int)} (h : ∀ p ∈ V, p.1.natAbs < 4294967296 ∧ p.2.natAbs < 4294967296) : Bd 1048576 V := fun p hp => zl_up ⟨zlen_small8 (h p hp).1, zlen_small8 (h p hp).2⟩ (by decide)
theorem PL3 {w : World} {p : Nat} {a b c : Int} {ty : TypeId} {fz : Nat × Nat} (x : Bs w p #[.int .i64 a, .int .i64 b, .int .i64 c] ty fz) : PL w (some ⟨p, 0, none⟩) [a, b, c] :=
  ⟨p, _, ty, fz, rfl, x, fun i hi => match i, hi with
    | 0, _ => rfl
    | 1, _ => rfl
    | 2, _ => rfl⟩
theorem sc1 {w : World} {p : Nat} {ty : TypeId} {fz : Nat × Nat} {n1 n2 : Bool} {q1 q2 : Option Addr} {k1 d1 k2 d2 : Nat} {x y : Int}
    (h : Bs w p #[.bool n1, .slice q1 k1 d1, .bool n2, .slice q2 k2 d2] ty fz) (h1 : ZC w (.agg #[.bool n1, .slice q1 k1 d1]) x) (h2 : ZC w (.agg #[.bool n2, .slice q2 k2 d2]) y) : SC w (some ⟨p, 0, none⟩) [(x, y)] :=
  .inr ⟨p, 0, _, ty, fz, rfl, h, fun i hi => match i, hi with
    | 0, _ => ⟨n1, q1, k1, d1, n2, q2, k2, d2, rfl, rfl, rfl, rfl, h1, h2⟩⟩
theorem mc1 {w : World} {p : Nat} {ty : TypeId} {fz : Nat × Nat} {q1 : Option Addr} {d1 : Nat} {r1 : List (Int × Int)}
    (h : Bs w p #[.slice q1 r1.length d1] ty fz) (h1 : SC w q1 r1) : MC w (some ⟨p, 0, none⟩) [r1] :=
  .inr ⟨p, 0, _, ty, fz, rfl, h, fun i hi => match i, hi with
    | 0, _ => ⟨q1, d1, rfl, h1⟩⟩
/-- The two numbers of the example's solution. -/
theorem xs_S {w : World} {o : Option Addr} (h : LQ w o [(mkRat 1 2, 0), (0, mkRat (-1) 2)]) :
    ∃ (g off : Nat) (cur : Array Value) (ty : TypeId) (fz : Nat × Nat) (a1 : Bool) (a2 : Option Addr) (a3 a4 : Nat) (a5 : Bool) (a6 : Option Addr) (a7 a8 : Nat) (a9 : Bool) (a10 : Option Addr) (a11 a12 : Nat) (a13 : Bool) (a14 : Option Addr) (a15 a16 : Nat) (b1 : Bool) (b2 : Option Addr) (b3 b4 : Nat) (b5 : Bool) (b6 : Option Addr) (b7 b8 : Nat) (b9 : Bool) (b10 : Option Addr) (b11 b12 : Nat) (b13 : Bool) (b14 : Option Addr) (b15 b16 : Nat), o = some ⟨g, off, none⟩ ∧ Bs w g cur ty fz ∧ cur[off]? = some (.bool a1) ∧ cur[off + 1]? = some (.slice a2 a3 a4) ∧ cur[off + 2]? = some (.bool a5) ∧ cur[off + 3]? = some (.slice a6 a7 a8) ∧ cur[off + 4]? = some (.bool a9) ∧ cur[off + 5]? = some (.slice a10 a11 a12) ∧ cur[off + 6]? = some (.bool a13) ∧ cur[off + 7]? = some (.slice a14 a15 a16) ∧ ZC w (.agg #[.bool a1, .slice a2 a3 a4]) (1) ∧ ZC w (.agg #[.bool a5, .slice a6 a7 a8]) (2) ∧ ZC w (.agg #[.bool a9, .slice a10 a11 a12]) (0) ∧ ZC w (.agg #[.bool a13, .slice a14 a15 a16]) (1) ∧ cur[off + 8]? = some (.bool b1) ∧ cur[off + 8 + 1]? = some (.slice b2 b3 b4) ∧ cur[off + 8 + 2]? = some (.bool b5) ∧ cur[off + 8 + 3]? = some (.slice b6 b7 b8) ∧ cur[off + 8 + 4]? = some (.bool b9) ∧ cur[off + 8 + 5]? = some (.slice b10 b11 b12) ∧ cur[off + 8 + 6]? = some (.bool b13) ∧ cur[off + 8 + 7]? = some (.slice b14 b15 b16) ∧ ZC w (.agg #[.bool b1, .slice b2 b3 b4]) (0) ∧ ZC w (.agg #[.bool b5, .slice b6 b7 b8]) (1) ∧ ZC w (.agg #[.bool b9, .slice b10 b11 b12]) (-1) ∧ ZC w (.agg #[.bool b13, .slice b14 b15 b16]) (2) := by
  obtain ⟨g, off, cur, ty, fz, rfl, x, d⟩ := h.resolve_left (fun e => by simp at e)
  obtain ⟨d1, d2, d3, d4, d5, d6, d7, d8, e1, e2, e3, e4, e5, e6, e7, e8, n1, o1, k1, c1, n2, o2, k2, c2, n3, o3, k3, c3, n4, o4, k4, c4, hv, z1, z2, z3, z4⟩ := d 0 (by simp)
  simp only [Value.agg.injEq, Array.mk.injEq, List.cons.injEq, and_true] at hv
  obtain ⟨rfl, rfl, rfl, rfl, rfl, rfl, rfl, rfl⟩ := hv
  obtain ⟨d1, d2, d3, d4, d5, d6, d7, d8, f1, f2, f3, f4, f5, f6, f7, f8, m1, p1, l1, q1, m2, p2, l2, q2, m3, p3, l3, q3, m4, p4, l4, q4, hv, y1, y2, y3, y4⟩ := d 1 (by simp)
  simp only [Value.agg.injEq, Array.mk.injEq, List.cons.injEq, and_true] at hv
  obtain ⟨rfl, rfl, rfl, rfl, rfl, rfl, rfl, rfl⟩ := hv
  have t1 : (mkRat 1 2).num = 1 := by decide +kernel
  have t2 : ((mkRat 1 2).den : Int) = 2 := by decide +kernel
  have t3 : (mkRat (-1) 2).num = -1 := by decide +kernel
  have t4 : ((mkRat (-1) 2).den : Int) = 2 := by decide +kernel
  replace z1 : ZC w _ (mkRat 1 2).num := z1
  replace z2 : ZC w _ ((mkRat 1 2).den : Int) := z2
  replace z3 : ZC w _ 0 := z3
  replace z4 : ZC w _ 1 := z4
  replace y1 : ZC w _ 0 := y1
  replace y2 : ZC w _ 1 := y2
  replace y3 : ZC w _ (mkRat (-1) 2).num := y3
  replace y4 : ZC w _ ((mkRat (-1) 2).den : Int) := y4
  rw [t1] at z1
  rw [t2] at z2
  rw [t3] at y3
  rw [t4] at y4
  exact ⟨g, off, cur, ty, fz, n1, o1, k1, c1, n2, o2, k2, c2, n3, o3, k3, c3, n4, o4, k4, c4, m1, p1, l1, q1, m2, p2, l2, q2, m3, p3, l3, q3, m4, p4, l4, q4, rfl, x, e1, e2, e3, e4, e5, e6, e7, e8, z1, z2, z3, z4, f1, f2, f3, f4, f5, f6, f7, f8, y1, y2, y3, y4⟩
end Go.Proofs.YtcoodkdalblalaaGreatDoor
