/- The walk of GmatSums. -/
import Derived.Test.YtajmgjgobgchjaaP1
import Derived.Test.YtajmgjgobgchjaaP2
import Derived.Test.YtajmgjgobgchjaaP3
namespace Go.Proofs.Ytajmgjgobgchjaa
open Go Go.RowKit Dig
theorem walk_GmatSums (w : World) (oa : Option Addr) (na ca : Nat) (A : List (List (Int × Int))) (ha : MN 1048576 w oa A) (hna : A.length = na) (la : na ≤ 1048576)
    (ob : Option Addr) (nb cb : Nat) (B : List (List (Int × Int))) (hb' : MN 1048576 w ob B) (hnb : B.length = nb) (lb : nb ≤ 1048576) (z : Int) (z1 : -9223372036854775808 ≤ z) (z2 : z ≤ 9223372036854775807) :
    Calls Try.prog 3 #[.slice oa na ca, .slice ob nb cb, .int .i64 z] w fun e w' => e = .returned (.bool true) ∧ Below w.heap.size w w' := by
  have hz : z < 0 ∨ 64 < z ∨ ∃ N : Nat, z = (N : Int) ∧ N ≤ 64 := by
    by_cases h : z < 0
    · exact .inl h
    · by_cases h2 : 64 < z
      · exact .inr (.inl h2)
      · exact .inr (.inr ⟨z.toNat, by omega, by omega⟩)
  rcases hz with dz | dz | ⟨N, rfl, dz⟩
  · by_cases h1 : gd A
    · by_cases h2 : gd B
      · by_cases e1 : na = nb
        · subst e1
          by_cases e2 : wd A = wd B
          · by_cases e3 : wd A = na
            · exact sums_g111neg ha hb' hna hnb la lb h1 h2 rfl e2.symm e3 dz
            · exact sums_g110neg ha hb' hna hnb la lb h1 h2 rfl e2.symm e3 dz
          · by_cases e3 : wd A = na
            · exact sums_g101neg ha hb' hna hnb la lb h1 h2 rfl rfl e2 e3 dz
            · exact sums_g100neg ha hb' hna hnb la lb h1 h2 rfl rfl e2 e3 dz
        · by_cases e3 : wd A = nb
          · exact sums_g001neg ha hb' hna hnb la lb h1 h2 rfl rfl e1 e3 dz
          · exact sums_g000neg ha hb' hna hnb la lb h1 h2 rfl rfl e1 e3 dz
      · exact sums_bneg ha hb' hna hnb la lb h1 h2 rfl dz
    · exact sums_aneg ha hb' hna hnb la lb h1 dz
  · by_cases h1 : gd A
    · by_cases h2 : gd B
      · by_cases e1 : na = nb
        · subst e1
          by_cases e2 : wd A = wd B
          · by_cases e3 : wd A = na
            · exact sums_g111big ha hb' hna hnb la lb h1 h2 rfl e2.symm e3 dz
            · exact sums_g110big ha hb' hna hnb la lb h1 h2 rfl e2.symm e3 dz
          · by_cases e3 : wd A = na
            · exact sums_g101big ha hb' hna hnb la lb h1 h2 rfl rfl e2 e3 dz
            · exact sums_g100big ha hb' hna hnb la lb h1 h2 rfl rfl e2 e3 dz
        · by_cases e3 : wd A = nb
          · exact sums_g001big ha hb' hna hnb la lb h1 h2 rfl rfl e1 e3 dz
          · exact sums_g000big ha hb' hna hnb la lb h1 h2 rfl rfl e1 e3 dz
      · exact sums_bbig ha hb' hna hnb la lb h1 h2 rfl dz
    · exact sums_abig ha hb' hna hnb la lb h1 dz
  · by_cases h1 : gd A
    · by_cases h2 : gd B
      · by_cases e1 : na = nb
        · subst e1
          by_cases e2 : wd A = wd B
          · by_cases e3 : wd A = na
            · exact sums_g111mid ha hb' hna hnb la lb h1 h2 rfl e2.symm e3 dz
            · exact sums_g110mid ha hb' hna hnb la lb h1 h2 rfl e2.symm e3 dz
          · by_cases e3 : wd A = na
            · exact sums_g101mid ha hb' hna hnb la lb h1 h2 rfl rfl e2 e3 dz
            · exact sums_g100mid ha hb' hna hnb la lb h1 h2 rfl rfl e2 e3 dz
        · by_cases e3 : wd A = nb
          · exact sums_g001mid ha hb' hna hnb la lb h1 h2 rfl rfl e1 e3 dz
          · exact sums_g000mid ha hb' hna hnb la lb h1 h2 rfl rfl e1 e3 dz
      · exact sums_bmid ha hb' hna hnb la lb h1 h2 rfl dz
    · exact sums_amid ha hb' hna hnb la lb h1 dz
end Go.Proofs.Ytajmgjgobgchjaa

