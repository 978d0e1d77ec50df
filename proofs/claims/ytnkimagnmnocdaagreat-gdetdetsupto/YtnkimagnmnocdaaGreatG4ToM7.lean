/- gint: Turn, timesI, Canon; the reference's. -/
import Derived.Test.YtnkimagnmnocdaaGreatG3ToI2
import Derived.Test.YtnkimagnmnocdaaGreatWoToM4

namespace Go.Proofs.YtnkimagnmnocdaaGreat
open Go Go.RowKit Dig
set_option linter.unusedVariables false

section
variable {w : World} {va vb : Value} {x y u v : Int} {l m k n : Nat}
end
end Go.Proofs.YtnkimagnmnocdaaGreat


/- gmat: Add, Sub, Scale, Trans, Adj, Ident, Size; copied. -/
namespace Go.Proofs.YtnkimagnmnocdaaGreat
open Go Go.RowKit Dig
set_option linter.unusedVariables false

section
variable {w : World} {l la lb i j n na nb cm ca cb pa pb pm pf pg k : Nat} {om oa ob : Option Addr} {Ms A B : List (List (Int × Int))} {va : Value} {x y u v : Int}
end
end Go.Proofs.YtnkimagnmnocdaaGreat


/- gmat.product: the product of two vectors. -/
namespace Go.Proofs.YtnkimagnmnocdaaGreat
open Go Go.RowKit Dig
set_option linter.unusedVariables false

theorem zlen_addM {x y : Int} {l : Nat} (hx : (dig x.natAbs).length ≤ l) (hy : (dig y.natAbs).length ≤ l) : (dig (x + y).natAbs).length ≤ l + 1 := by
  refine dig_length_le ?_
  have h1 := Nat.lt_of_lt_of_le (lt_pw_dig x.natAbs) (pw_mono hx)
  have h2 := Nat.lt_of_lt_of_le (lt_pw_dig y.natAbs) (pw_mono hy)
  have h3 : (x + y).natAbs ≤ x.natAbs + y.natAbs := Int.natAbs_add_le x y
  simp only [pw]; omega
theorem zlen_subM {x y : Int} {l : Nat} (hx : (dig x.natAbs).length ≤ l) (hy : (dig y.natAbs).length ≤ l) : (dig (x - y).natAbs).length ≤ l + 1 := by
  rw [Int.sub_eq_add_neg]
  exact zlen_addM hx (by rw [Int.natAbs_neg]; exact hy)
def zl (l : Nat) (p : Int × Int) : Prop := (dig p.1.natAbs).length ≤ l ∧ (dig p.2.natAbs).length ≤ l
theorem zl_mP {p q : Int × Int} {l m : Nat} (hp : zl l p) (hq : zl m q) : zl (l + m + 1) (mP p q) :=
  ⟨zlen_subM (zlen_mul hp.1 hq.1) (zlen_mul hp.2 hq.2), zlen_addM (zlen_mul hp.1 hq.2) (zlen_mul hp.2 hq.1)⟩
theorem zl_0 (l : Nat) : zl l (0, 0) := by
  have : (dig (Int.natAbs 0)).length ≤ l := by rw [show dig (Int.natAbs 0) = [] from dig_eq_nil.2 rfl]; exact Nat.zero_le _
  exact ⟨this, this⟩
theorem Bd.at1 {l i : Nat} {ps : List (Int × Int)} (h : Bd l ps) : zl l (at1 ps i) := by
  rcases Nat.lt_or_ge i ps.length with hi | hi
  · rw [at1_eq hi]; exact h _ (List.getElem_mem hi)
  · rw [Go.Proofs.YtnkimagnmnocdaaGreat.at1, List.getD, List.getElem?_eq_none hi]; exact zl_0 _
section
variable {w : World} {lu lv n cu cv : Nat} {ou ov : Option Addr} {U V : List (Int × Int)}
end
end Go.Proofs.YtnkimagnmnocdaaGreat


/- gmat: Add, Sub, Scale, Trans, Adj, Ident, Size. -/
namespace Go.Proofs.YtnkimagnmnocdaaGreat
open Go Go.RowKit Dig
set_option linter.unusedVariables false

theorem gd_row {A : List (List (Int × Int))} {i : Nat} (h : gd A) (hi : i < A.length) : (rw_ A i).length = wd A := by rw [rw_eq hi]; exact h.2.2 _ (List.getElem_mem hi)
section
variable {w : World} {l la lb n na nb cm ca cb : Nat} {om oa ob : Option Addr} {Ms A B : List (List (Int × Int))} {vg : Value} {u v : Int}
end
end Go.Proofs.YtnkimagnmnocdaaGreat


/- gmat.combined: the sum of a matrix's rows. -/
namespace Go.Proofs.YtnkimagnmnocdaaGreat
open Go Go.RowKit Dig
set_option linter.unusedVariables false
theorem BdM.at2 {l i j : Nat} {Ms : List (List (Int × Int))} (h : BdM l Ms) : zl l (at2 Ms i j) := by
  rcases Nat.lt_or_ge i Ms.length with hi | hi
  · rw [Go.Proofs.YtnkimagnmnocdaaGreat.at2, rw_eq hi]; exact Bd.at1 (h _ (List.getElem_mem hi))
  · rw [Go.Proofs.YtnkimagnmnocdaaGreat.at2, rw_, List.getD, List.getElem?_eq_none hi]; exact Bd.at1 (ps := []) fun p hp => by cases hp
section
variable {w : World} {lu lv n cu cv pv pm j : Nat} {ou ov : Option Addr} {V : List (Int × Int)} {M : List (List (Int × Int))}
end
end Go.Proofs.YtnkimagnmnocdaaGreat


/- gmat: Scale, Trans, Adj, Ident, Size. -/
namespace Go.Proofs.YtnkimagnmnocdaaGreat
open Go Go.RowKit Dig
set_option linter.unusedVariables false

section
variable {w : World} {l la lb n na nb cm ca cb i j : Nat} {om oa ob : Option Addr} {Ms A B : List (List (Int × Int))} {vg : Value} {u v : Int}
set_option maxHeartbeats 4000000 in
set_option maxRecDepth 20000 in
theorem mSize_ok (ha : MN la w oa A) (hna : A.length = na) (h : gd A) {k : Nat} (hk : wd A = k) :
    Calls Tryz.prog 81 #[.slice oa na ca] w fun e w' => e = .returned (.tuple #[.int .i64 (na : Int), .int .i64 (k : Int), .int .i64 0]) ∧ Below w.heap.size w w' := by
  have HA := hide ha
  have hn64 : na ≤ 64 := by have := h.1; omega
  clear ha
  go_enter Tryz.func81, Tryz.ntmps81
  have hs := St.nil w
  refine wp_seq_k ?_
  intro K1 hK1
  refine rg [0, 1, 2] ?_
  refine sq ?_
  refine .mv ?_
  refine sq ?_
  refine .mv ?_
  refine sq ?_
  refine .mv ?_
  apply wpSq_end
  refine hK1 _ _ ?_
  refine wp_seq_k ?_
  intro K2 hK2
  refine wp_seq_k ?_
  intro K3 hK3
  refine rg [0, 1, 2] ?_
  refine sq ?_
  refine .mv ?_
  refine sq ?_
  intro K hK
  have hb := hs.b
  go_big_op
  go_fit (good_yes (HA.out.bl stab_n hb) hna (by omega) h)
  rintro e w_1 ⟨rfl, hb_1⟩
  clear hb
  replace hs := hs.bl hb_1
  refine hK _ _ rfl trivial ?_
  clear hK K
  refine sq ?_
  refine .r0 ?_
  apply wpSq_end
  refine hK3 _ _ ?_
  refine cf ?_
  refine wp_skip ?_
  refine hK2 _ _ ?_
  refine wp_seq_k ?_
  intro K4 hK4
  refine rg [0, 1, 2, 3, 4, 5, 6] ?_
  refine sq ?_
  refine .mv ?_
  refine sq ?_
  refine .r0 ?_
  refine sq ?_
  refine .mv ?_
  refine sq ?_
  intro K hK
  have hb := hs.b
  go_big_op
  go_fit (width_any (HA.out.bl stab_n hb) hna hk)
  rintro e w_2 ⟨rfl, hb_2⟩
  clear hb
  replace hs := hs.bl hb_2
  refine hK _ _ rfl trivial ?_
  clear hK K
  refine sq ?_
  refine .mv ?_
  refine sq ?_
  refine .mv ?_
  refine sq ?_
  refine .mv ?_
  apply wpSq_end
  refine hK4 _ _ ?_
  refine wp_ret ?_
  try dsimp only [Exit.then, Exit.inBlock]
  refine bodyPost_ret (v := (.tuple #[(.int .i64 ((na : Nat) : Int)), (.int .i64 (k : Int)), (.int .i64 0)])) (by simp [results, Tryz.results81, go_sem]) rfl ?_
  exact ⟨rfl, hs.b⟩
set_option maxHeartbeats 4000000 in
set_option maxRecDepth 20000 in
theorem mSize_bad (ha : MN la w oa A) (hna : A.length = na) (h : ¬ gd A) (hla : na ≤ 1000000000) :
    Calls Tryz.prog 81 #[.slice oa na ca] w fun e w' => e = .returned (.tuple #[.int .i64 0, .int .i64 0, .int .i64 4]) ∧ Below w.heap.size w w' := by
  have HA := hide ha
  clear ha
  go_enter Tryz.func81, Tryz.ntmps81
  have hs := St.nil w
  refine wp_seq_k ?_
  intro K1 hK1
  refine rg [0, 1, 2] ?_
  refine sq ?_
  refine .mv ?_
  refine sq ?_
  refine .mv ?_
  refine sq ?_
  refine .mv ?_
  apply wpSq_end
  refine hK1 _ _ ?_
  refine wp_seq_k ?_
  intro K2 hK2
  refine wp_seq_k ?_
  intro K3 hK3
  refine rg [0, 1, 2] ?_
  refine sq ?_
  refine .mv ?_
  refine sq ?_
  intro K hK
  have hb := hs.b
  go_big_op
  go_fit (good_no (HA.out.bl stab_n hb) hna hla h)
  rintro e w_1 ⟨rfl, hb_1⟩
  clear hb
  replace hs := hs.bl hb_1
  refine hK _ _ rfl trivial ?_
  clear hK K
  refine sq ?_
  refine .r0 ?_
  apply wpSq_end
  refine hK3 _ _ ?_
  refine ct ?_
  refine wp_seq_k ?_
  intro K4 hK4
  refine rg [0, 1, 2] ?_
  refine sq ?_
  refine .mv ?_
  refine sq ?_
  refine .mv ?_
  refine sq ?_
  refine .mv ?_
  apply wpSq_end
  refine hK4 _ _ ?_
  refine wp_ret ?_
  try dsimp only [Exit.then, Exit.inBlock]
  refine bodyPost_ret (v := (.tuple #[(.int .i64 0), (.int .i64 0), (.int .i64 4)])) (by simp [results, Tryz.results81, go_sem]) rfl ?_
  exact ⟨rfl, hs.b⟩
end
end Go.Proofs.YtnkimagnmnocdaaGreat

