/- The reference's Trim answers the digits without noughts at the top. -/
import Derived.Test.YtjfjlloibmebeaaGreatW8
namespace Go.Proofs.YtjfjlloibmebeaaGreat
open Go.RowKit Dig

/-- The built-in append of nothing onto a nil slice. -/
theorem append_nothing (oa : Option Addr) (c ty : Nat) (w : World) : (Builtin.append_ #[34, 34] ty #[.slice none 0 0, .slice oa 0 c]).run Tryz.prog w = .ok (.slice none 0 0) w := by
  obtain ⟨i0, hi, _, _, _⟩ := info_parts info32
  have hl : ∀ (x : Addr), (loadCells x 0).run Tryz.prog w = .ok #[] w := fun x => by simpa using run_loadCells_list (P := Tryz.prog) w x [] (by simp)
  have hu : Tryz.prog.underlying 34 = some (.slice 99) := Tryz.underlying34
  cases oa <;> simp [Builtin.append_, run_underlying hu, sizeOf, typeInfo, hi, Builtin.lenOf, Builtin.firstCells, hl]
theorem wpList_append_nothing {w : World} {ops : Array Oper} {rest : List Oper} {o : Oper} {a : Act} {Q : Exit → Act → World → Prop} (hgd : o.guard = none) (s x : Operand)
    (ho : o.op = .call { callee := .builtin .append, args := #[s, x], argTypes := #[34, 34] }) (oa : Option Addr) (c : Nat) (hs : a.eval s = .slice none 0 0) (hx : a.eval x = .slice oa 0 c)
    (h : wpList Tryz.prog ops Q rest (a.put o.dst (.slice none 0 0)) w) : wpList Tryz.prog ops Q (o :: rest) a w := by
  refine wpList_plain hgd fun K hK => ?_
  unfold Oper.wp execOp
  simp only [ho, resolve, invoke, builtin, Sem.run_bind, Sem.run_pure, Result.andThen_ok, List.map_toArray, List.map_cons, List.map_nil, hs, hx, append_nothing]
  exact hK _ _ h
theorem Rd.of_owns {w : World} {B : Nat} {v : Value} {ds : List Nat} (ok : OK ds) (h : w.ownsRow B 99 1 v ds.length (ds.map dv)) : Rd w v ds := by
  obtain ⟨h1, h2⟩ := h
  rcases h2 with ⟨h2, h3⟩ | ⟨g, cap, cur, hv, hg, hh, hn, hm, hs, ht⟩
  · have : ds = [] := List.length_eq_zero_iff.1 h3
    subst this
    exact ⟨none, 0, h2, Nat.le_refl _, ok, .inl rfl⟩
  · refine ⟨_, cap, hv, hn, ok, .inr ⟨g, 0, rfl, fun i hi => ?_⟩⟩
    have e : cur[i]? = some (dv (ds[i]?.getD 0)) := by
      rw [← Array.getElem?_toList, ← List.getElem?_take_of_lt (show i < ds.length * 1 by omega), ht]
      simp [hi]
    simp [World.cell?, hh, e, dv]
end Go.Proofs.YtjfjlloibmebeaaGreat

