/- The walk of GdetMinors. -/
import Derived.Test.YtnkimagnmnocdaaGreatF7ToE18
namespace Go.Proofs.YtnkimagnmnocdaaGreat
open Go Go.RowKit Dig
set_option maxHeartbeats 4000000
set_option maxRecDepth 20000
set_option linter.unusedVariables false
set_option linter.unusedSimpArgs false
def LZ (w : World) (o : Option Addr) (zs : List Int) : Prop :=
  zs = [] ∨ ∃ g off cur ty fz, o = some ⟨g, off, none⟩ ∧ Bs w g cur ty fz ∧ ∀ i (hi : i < zs.length), ∃ n o k c, cur[off + i * 2]? = some (.bool n) ∧ cur[off + i * 2 + 1]? = some (.slice o k c) ∧ ZC w (.agg #[.bool n, .slice o k c]) zs[i]
theorem LZ.of {w : World} {B n c : Nat} {o : Option Addr} {ty : TypeId} {xs : List Value} {zs : List Int} (h : Lst w B ty 2 (.slice o n c) n xs) (hz : ZL w xs zs) (hn : zs.length = n) : LZ w o zs := by
  rcases Nat.eq_zero_or_pos n with h0 | h0
  · exact .inl (List.eq_nil_of_length_eq_zero (by omega))
  · obtain ⟨g, cur, rfl, x, hc⟩ := h.box h0
    refine .inr ⟨g, 0, cur, _, _, rfl, x, fun i hi => ?_⟩
    obtain ⟨n, o, k, c, e1, e2, e3⟩ := hz.els i hi
    exact ⟨n, o, k, c, by rw [Nat.zero_add]; exact hc _ _ e1, by rw [Nat.zero_add]; exact hc _ _ e2, e3⟩
theorem LZ.bl {w w' : World} {o : Option Addr} {zs : List Int} (h : LZ w o zs) (hb : Below w.heap.size w w') : LZ w' o zs := by
  rcases h with h | ⟨g, off, cur, ty, fz, rfl, x, d⟩
  · exact .inl h
  · refine .inr ⟨g, off, cur, ty, fz, rfl, x.bl hb, fun i hi => ?_⟩
    obtain ⟨n, o, k, c, e1, e2, e3⟩ := d i hi
    exact ⟨n, o, k, c, e1, e2, e3.bl hb⟩
theorem minors_lz {w : World} {a : Array Value} {K n : Nat} {zs : List Int} (hz : zs.length = n + 1) (h : Calls Tryz.prog K a w fun e w' => ∃ o c xs, e = .returned (.tuple #[.slice o (n + 1) c, .int .i64 0]) ∧ Lst w' w.heap.size 26 2 (.slice o (n + 1) c) (n + 1) xs ∧ ZL w' xs zs ∧ Below w.heap.size w w') :
    Calls Tryz.prog K a w fun e w' => ∃ o c, e = .returned (.tuple #[.slice o (n + 1) c, .int .i64 0]) ∧ LZ w' o zs ∧ Below w.heap.size w w' :=
  Calls.mono h fun e w' ⟨o, c, xs, h1, h2, h3, h4⟩ => ⟨o, c, h1, LZ.of h2 h3 hz, h4⟩
theorem minors_lz2 {w : World} {a : Array Value} {K n : Nat} {zs : List Int} (hz : zs.length = n + 1) (h : Calls Tryz.prog K a w fun e w' => ∃ o c xs, e = .returned (.slice o (n + 1) c) ∧ Lst w' w.heap.size 26 2 (.slice o (n + 1) c) (n + 1) xs ∧ ZL w' xs zs ∧ Below w.heap.size w w') :
    Calls Tryz.prog K a w fun e w' => ∃ o c, e = .returned (.slice o (n + 1) c) ∧ LZ w' o zs ∧ Below w.heap.size w w' :=
  Calls.mono h fun e w' ⟨o, c, xs, h1, h2, h3, h4⟩ => ⟨o, c, h1, LZ.of h2 h3 hz, h4⟩
theorem mins_len {n W : Nat} {M : Nat → Nat → Int × Int} : (mins n W M).length = n + 1 := by simp [mins]
section
variable {w : World} {m L c1 c2 : Nat} {o1 o2 : Option Addr} {zs : List Int}
theorem whole_yes (h1 : LZ w o1 zs) (h2 : LZ w o2 zs) (hn : zs.length = m) (hm : m ≤ 1000000) (hB : ∀ z ∈ zs, (dig z.natAbs).length ≤ L) (hL : L ≤ 80000000) :
    Calls Tryz.prog 19 #[.slice o1 m c1, .slice o2 m c2] w fun e w' => e = .returned (.bool true) ∧ Below w.heap.size w w' := by
  have H1 := hide h1
  have H2 := hide h2
  have HB := hide hB
  have t0 : ((m : Int) != (m : Int)) = false := by simp
  clear h1 h2 hB
  go_enter Tryz.func19, Tryz.ntmps19
  have hs := St.nil w
  refine wp_seq_k ?_
  intro K1 hK1
  refine rg [0] ?_
  refine sq ?_
  refine .mv ?_
  apply wpSq_end
  refine hK1 _ _ ?_
  refine wp_seq_k ?_
  intro K2 hK2
  refine wp_seq_k ?_
  intro K3 hK3
  refine rg [0, 1, 2, 3, 4] ?_
  refine sq ?_
  refine .mv ?_
  refine sq ?_
  refine .r0 ?_
  refine sq ?_
  refine .mv ?_
  refine sq ?_
  refine .r0 ?_
  refine sq ?_
  refine .r0 ?_
  apply wpSq_end
  refine hK3 _ _ ?_
  refine cf ?_
  refine wp_skip ?_
  refine hK2 _ _ ?_
  refine wp_seq_k ?_
  intro K4 hK4
  refine wp_seq_k ?_
  intro K5 hK5
  refine rg [0] ?_
  refine sq ?_
  refine .mv ?_
  apply wpSq_end
  refine hK5 _ _ ?_
  refine wp_block ?_
  have hd1 := hs.2.1
  go_loopg [5] m (fun kz s5 wr => ∃ (i : Nat), s5 = .int .i64 (i : Int) ∧ i + kz = m ∧ St w [] wr)
  case atStart => exact ⟨0, rfl, by omega, hs⟩
  case round =>
  clear hs
  obtain ⟨i, rfl, him, hs⟩ := hrel
  by_cases hi : i < m
  · have HI := hide hi
    have t1 : ((i : Int) < (m : Int)) = True := eq_true (by omega)
    have hz : i < zs.length := by omega
    obtain ⟨g1, f1', u1, y1, z1, rfl, x1, d1⟩ := H1.out.resolve_left (fun h => by rw [h] at hz; exact absurd hz (Nat.not_lt_zero _))
    obtain ⟨g2, f2', u2, y2, z2, rfl, x2, d2⟩ := H2.out.resolve_left (fun h => by rw [h] at hz; exact absurd hz (Nat.not_lt_zero _))
    obtain ⟨n1, p1, k1, q1, ea1, ea2, za⟩ := d1 i hz
    obtain ⟨n2, p2, k2, q2, eb1, eb2, zb⟩ := d2 i hz
    obtain ⟨Z, hZ⟩ : ∃ Z, zs[i] = Z := ⟨_, rfl⟩
    have LZZ := hide (show (dig Z.natAbs).length ≤ L by rw [← hZ]; exact HB.out _ (List.getElem_mem hz))
    rw [hZ] at za zb
    have zaa := za.bl hs.b
    have zbb := (zb.bl hs.b).zn LZZ.out
    replace x1 := x1.bl hs.b
    replace x2 := x2.bl hs.b
    clear d1 d2 hZ za zb
    refine wp_seq_k ?_
    intro K6 hK6
    refine wp_seq_k ?_
    intro K7 hK7
    refine rg [0, 1, 2, 3] ?_
    refine sq ?_
    refine .mv ?_
    refine sq ?_
    refine .mv ?_
    refine sq ?_
    refine .r0 ?_
    refine sq ?_
    refine .r0 ?_
    apply wpSq_end
    refine hK7 _ _ ?_
    refine ct ?_
    refine wp_skip ?_
    refine hK6 _ _ ?_
    refine wp_seq_k ?_
    intro K8 hK8
    refine wp_block ?_
    refine wp_seq_k ?_
    intro K9 hK9
    refine wp_region_f4 [(0, false), (1, false), (2, false), (3, false), (4, false), (5, false), (6, false), (7, false), (8, true), (9, false)] [] [] (fun _ => default) [99, 99, 99, 0, 99, 99, 99, 1, 99, 99] [] (.c x1 (.c x2 .n)) fn fun w_2 n2 => ?_
    replace x1 := x1.bl n2; replace x2 := x2.bl n2; replace hs := hs.bl n2
    refine fmv ?_
    refine fmv ?_
    refine f0 ?_
    apply wpFl_ld rfl rfl; (case h1 => intro w' hC K hK; have c0 := Bs.cell hC ((f1' + i * 2)) ea1; have c1 := Bs.cell hC ((f1' + i * 2) + 1) ea2; go_big_op; exact hK); iterate 4 kernel_rfl
    refine fmv ?_
    refine fmv ?_
    refine f0 ?_
    apply wpFl_ld rfl rfl; (case h1 => intro w' hC K hK; have c0 := Bs.cell hC ((f2' + i * 2)) eb1; have c1 := Bs.cell hC ((f2' + i * 2) + 1) eb2; go_big_op; exact hK); iterate 4 kernel_rfl
    have Lzaa := LZZ
    refine fl fun w_3 n3 => ?_
    replace x1 := x1.bl n3; replace x2 := x2.bl n3; replace hs := hs.bl n3
    intro K hK
    have k0_2 := (kb n2).b n3
    replace zaa := zaa.k k0_2
    replace zbb := zbb.k k0_2
    go_big_op
    go_fit (rsame_zz zaa zbb (by omega) )
    rintro e w_4 ⟨rfl, hb_4⟩
    replace x1 := x1.bl hb_4; replace x2 := x2.bl hb_4; replace hs := hs.bl hb_4
    refine hK _ _ rfl ⟨hb_4, (And.intro x1 (And.intro x2 trivial))⟩ ?_
    clear hK K
    refine f0 ?_
    refine e0 hs ?_; clear hs; intro w_5 hs n5
    replace x1 := x1.bl n5; replace x2 := x2.bl n5
    apply wpTail_end
    refine hK9 _ _ ?_
    refine cf ?_
    refine wp_skip ?_
    refine hK8 _ _ ?_
    refine rg [0, 1, 2] ?_
    refine sq ?_
    refine .mv ?_
    refine sq ?_
    refine .r0 ?_
    refine sq ?_
    refine .mv ?_
    apply wpSq_end
    refine ‹∀ (a' : Act) (w' : World), Handed _ _ a' w' → _› _ _ ?_
    go_roundg (gk - 1)
    case rel => exact ⟨i + 1, by rfl, by omega, hs⟩
    case measure => omega
  · have HI := hide (show i = m by omega)
    have t1 : ((i : Int) < (m : Int)) = False := eq_false (by omega)
    refine wp_seq_k ?_
    intro K6 hK6
    refine wp_seq_k ?_
    intro K7 hK7
    refine rg [0, 1, 2, 3] ?_
    refine sq ?_
    refine .mv ?_
    refine sq ?_
    refine .mv ?_
    refine sq ?_
    refine .r0 ?_
    refine sq ?_
    refine .r0 ?_
    apply wpSq_end
    refine hK7 _ _ ?_
    refine cf ?_
    refine wp_exit ?_
    refine hK4 _ _ ?_
    refine wp_seq_k ?_
    intro K8 hK8
    refine rg [0] ?_
    refine sq ?_
    refine .mv ?_
    apply wpSq_end
    refine hK8 _ _ ?_
    refine wp_ret ?_
    try dsimp only [Exit.then, Exit.inBlock]
    refine bodyPost_ret (v := (.bool true)) (by simp [results, Tryz.results19, go_sem]) rfl ?_
    exact ⟨rfl, hs.b⟩
end
theorem mins_bd {n W L : Nat} {M : Nat → Nat → Int × Int} (hB : MinB n n L (gG W M)) : ∀ z ∈ mins n W M, (dig z.natAbs).length ≤ L := fun z hz => by
  obtain ⟨k, hk, rfl⟩ := List.mem_map.1 hz
  have hk := List.mem_range.1 hk
  exact (hB k id id (fun r hr => ⟨by simp only [id]; omega, by simp only [id]; omega⟩) (fun r q h _ => by simp only [id]; omega)).1
section
variable {w : World} {n c k : Nat} {o : Option Addr} {A : List (List (Int × Int))}
theorem gminors_bad (ha : MN 1048576 w o A) (hn : A.length = n) (ln : n ≤ 1048576) (h : ¬ gd A) :
    Calls Tryz.prog 4 #[.slice o n c] w fun e w' => e = .returned (.bool true) ∧ Below w.heap.size w w' := by
  have HA := hide ha
  have HG := hide h
  clear ha h
  go_enter Tryz.func4, Tryz.ntmps4
  have hs := St.nil w
  refine wp_seq_k ?_
  intro K1 hK1
  refine rg [0] ?_
  refine sq ?_
  refine .mv ?_
  apply wpSq_end
  refine hK1 _ _ ?_
  refine wp_seq_k ?_
  intro K2 hK2
  refine rg [0, 1, 2, 3, 4, 5, 6] ?_
  refine sq ?_
  refine .mv ?_
  refine sq ?_
  intro K hK
  have hb := hs.b
  go_big_op
  go_fit (minors_bad (HA.out.bl stab_n hb) hn HG.out (by omega))
  rintro e w_1 ⟨rfl, hb_1⟩
  clear hb
  replace hs := hs.bl hb_1
  refine hK _ _ rfl trivial ?_
  clear hK K
  refine sq ?_
  refine .mv ?_
  refine sq ?_
  refine .r0 ?_
  refine sq ?_
  refine .r0 ?_
  refine sq ?_
  refine .mv ?_
  refine sq ?_
  refine .mv ?_
  apply wpSq_end
  refine hK2 _ _ ?_
  refine wp_seq_k ?_
  intro K3 hK3
  refine wp_seq_k ?_
  intro K4 hK4
  refine rg [0, 1, 2] ?_
  refine sq ?_
  refine .mv ?_
  refine sq ?_
  intro K hK
  have hb := hs.b
  go_big_op
  go_fit (rGood_any (HA.out.bl stab_n hb) hn (by omega))
  rintro e w_2 ⟨rfl, hb_2⟩
  clear hb
  replace hs := hs.bl hb_2
  rw [decide_eq_false HG.out]
  refine hK _ _ rfl trivial ?_
  clear hK K
  refine sq ?_
  refine .r0 ?_
  apply wpSq_end
  refine hK4 _ _ ?_
  refine ct ?_
  refine wp_seq_k ?_
  intro K5 hK5
  refine rg [0, 1, 2, 3, 4, 5, 6, 7, 8, 9, 10] ?_
  refine sq ?_
  intro K hK
  go_big_op
  go_fit (awake9_any _)
  rintro e w_3 ⟨rfl, hb_3⟩
  replace hs := hs.bl hb_3
  refine hK _ _ rfl trivial ?_
  clear hK K
  refine sq ?_
  refine .mv ?_
  refine sq ?_
  refine .mv ?_
  refine sq ?_
  refine .r0 ?_
  refine sq ?_
  refine .r0 ?_
  refine sq ?_
  refine .mv ?_
  refine sq ?_
  refine .mv ?_
  refine sq ?_
  refine .r0 ?_
  refine sq ?_
  refine .r0 ?_
  refine sq ?_
  refine .r0 ?_
  refine sq ?_
  refine .mv ?_
  apply wpSq_end
  refine hK5 _ _ ?_
  refine wp_ret ?_
  try dsimp only [Exit.then, Exit.inBlock]
  refine bodyPost_ret (v := (.bool true)) (by simp [results, Tryz.results4, go_sem]) rfl ?_
  exact ⟨rfl, hs.b⟩
theorem gminors_ok (ha : MN 1048576 w o A) (hn : A.length = n) (ln : n ≤ 1048576) (h : gd A) (hk : wd A = k) (hT : Tot 1048576 A) :
    Calls Tryz.prog 4 #[.slice o n c] w fun e w' => e = .returned (.bool true) ∧ Below w.heap.size w w' := by
  have HA := hide ha
  have HG := hide h
  have HK := hide hk
  have hn64 : n ≤ 64 := by have := h.1; omega
  have HB := hide (hT.gram (W := k) hn hn64 (by have := h.2.1; omega))
  clear ha h hk hT
  go_enter Tryz.func4, Tryz.ntmps4
  have hs := St.nil w
  refine wp_seq_k ?_
  intro K1 hK1
  refine rg [0] ?_
  refine sq ?_
  refine .mv ?_
  apply wpSq_end
  refine hK1 _ _ ?_
  refine wp_seq_k ?_
  intro K2 hK2
  refine rg [0, 1, 2, 3, 4, 5, 6] ?_
  refine sq ?_
  refine .mv ?_
  refine sq ?_
  intro K hK
  have hb := hs.b
  go_big_op
  go_fit (minors_lz mins_len (minors_ok (HA.out.bl stab_n hb) hn HG.out HK.out HB.out (by decide) (by decide)))
  rintro e w_1 ⟨o_p, c_p, rfl, m_p, hb_1⟩
  clear hb
  replace hs := hs.bl hb_1
  refine hK _ _ rfl trivial ?_
  clear hK K
  refine sq ?_
  refine .mv ?_
  refine sq ?_
  refine .r0 ?_
  refine sq ?_
  refine .r0 ?_
  refine sq ?_
  refine .mv ?_
  refine sq ?_
  refine .mv ?_
  apply wpSq_end
  refine hK2 _ _ ?_
  refine wp_seq_k ?_
  intro K3 hK3
  refine wp_seq_k ?_
  intro K4 hK4
  refine rg [0, 1, 2] ?_
  refine sq ?_
  refine .mv ?_
  refine sq ?_
  intro K hK
  have hb := hs.b
  go_big_op
  go_fit (rGood_any (HA.out.bl stab_n hb) hn (by omega))
  rintro e w_2 ⟨rfl, hb_2⟩
  clear hb
  replace m_p := m_p.bl hb_2; replace hs := hs.bl hb_2
  rw [decide_eq_true HG.out]
  refine hK _ _ rfl trivial ?_
  clear hK K
  refine sq ?_
  refine .r0 ?_
  apply wpSq_end
  refine hK4 _ _ ?_
  refine cf ?_
  refine wp_skip ?_
  refine hK3 _ _ ?_
  refine wp_seq_k ?_
  intro K5 hK5
  refine rg [0, 1, 2, 3, 4, 5, 6, 7, 8, 9, 10, 11] ?_
  refine sq ?_
  intro K hK
  go_big_op
  go_fit (awake9_any _)
  rintro e w_3 ⟨rfl, hb_3⟩
  replace m_p := m_p.bl hb_3; replace hs := hs.bl hb_3
  refine hK _ _ rfl trivial ?_
  clear hK K
  refine sq ?_
  refine .mv ?_
  refine sq ?_
  refine .mv ?_
  refine sq ?_
  refine .r0 ?_
  refine sq ?_
  refine .r0 ?_
  refine sq ?_
  refine .mv ?_
  refine sq ?_
  refine .mv ?_
  refine sq ?_
  refine .mv ?_
  refine sq ?_
  intro K hK
  have hb := hs.b
  go_big_op
  go_fit (minors_lz2 mins_len (rMinors_any (HA.out.bl stab_n hb) hn HG.out HK.out HB.out (by decide) (by decide) (by decide)))
  rintro e w_4 ⟨o_q, c_q, rfl, m_q, hb_4⟩
  clear hb
  replace m_p := m_p.bl hb_4; replace hs := hs.bl hb_4
  refine hK _ _ rfl trivial ?_
  clear hK K
  refine sq ?_
  intro K hK
  go_big_op
  go_fit (whole_yes m_p m_q mins_len (by omega) (mins_bd HB.out) (by decide))
  rintro e w_5 ⟨rfl, hb_5⟩
  replace m_p := m_p.bl hb_5; replace m_q := m_q.bl hb_5; replace hs := hs.bl hb_5
  refine hK _ _ rfl trivial ?_
  clear hK K
  refine sq ?_
  refine .r0 ?_
  refine sq ?_
  refine .mv ?_
  apply wpSq_end
  refine hK5 _ _ ?_
  refine wp_ret ?_
  try dsimp only [Exit.then, Exit.inBlock]
  refine bodyPost_ret (v := (.bool true)) (by simp [results, Tryz.results4, go_sem]) rfl ?_
  exact ⟨rfl, hs.b⟩
end
theorem walk_GdetMinors (w : World) (oa : Option Addr) (na ca : Nat) (A : List (List (Int × Int))) (ha : MN 1048576 w oa A) (hna : A.length = na) (la : na ≤ 1048576) (ta : Tot 1048576 A) :
    Calls Tryz.prog 4 #[.slice oa na ca] w fun e w' => e = .returned (.bool true) ∧ Below w.heap.size w w' := by
  by_cases h : gd A
  · exact gminors_ok ha hna la h rfl ta
  · exact gminors_bad ha hna la h
end Go.Proofs.YtnkimagnmnocdaaGreat
