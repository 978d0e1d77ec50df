/- The reference's Trim answers the digits without noughts at the top. -/
import Derived.Test.YtlomgfgedkkhkaaGreatDoorW8
namespace Go.Proofs.YtlomgfgedkkhkaaGreatDoor
open Go.RowKit Dig

/-- The built-in append of nothing onto a nil slice. -/
theorem append_nothing (oa : Option Addr) (c ty : Nat) (w : World) : (Builtin.append_ #[24, 24] ty #[.slice none 0 0, .slice oa 0 c]).run Tryz.prog w = .ok (.slice none 0 0) w := by
  obtain ⟨i0, hi, _, _, _⟩ := info_parts info32
  have hl : ∀ (x : Addr), (loadCells x 0).run Tryz.prog w = .ok #[] w := fun x => by simpa using run_loadCells_list (P := Tryz.prog) w x [] (by simp)
  have hu : Tryz.prog.underlying 24 = some (.slice 56) := Tryz.underlying24
  cases oa <;> simp [Builtin.append_, run_underlying hu, sizeOf, typeInfo, hi, Builtin.lenOf, Builtin.firstCells, hl]
theorem wpList_append_nothing {w : World} {ops : Array Oper} {rest : List Oper} {o : Oper} {a : Act} {Q : Exit → Act → World → Prop} (hgd : o.guard = none) (s x : Operand)
    (ho : o.op = .call { callee := .builtin .append, args := #[s, x], argTypes := #[24, 24] }) (oa : Option Addr) (c : Nat) (hs : a.eval s = .slice none 0 0) (hx : a.eval x = .slice oa 0 c)
    (h : wpList Tryz.prog ops Q rest (a.put o.dst (.slice none 0 0)) w) : wpList Tryz.prog ops Q (o :: rest) a w := by
  refine wpList_plain hgd fun K hK => ?_
  unfold Oper.wp execOp
  simp only [ho, resolve, invoke, builtin, Sem.run_bind, Sem.run_pure, Result.andThen_ok, List.map_toArray, List.map_cons, List.map_nil, hs, hx, append_nothing]
  exact hK _ _ h
theorem Rd.of_owns {w : World} {B : Nat} {v : Value} {ds : List Nat} (ok : OK ds) (h : w.ownsRow B 56 1 v ds.length (ds.map dv)) : Rd w v ds := by
  obtain ⟨h1, h2⟩ := h
  rcases h2 with ⟨h2, h3⟩ | ⟨g, cap, cur, hv, hg, hh, hn, hm, hs, ht⟩
  · have : ds = [] := List.length_eq_zero_iff.1 h3
    subst this
    exact ⟨none, 0, h2, Nat.le_refl _, ok, .inl rfl⟩
  · refine ⟨_, cap, hv, hn, ok, .inr ⟨g, 0, rfl, fun i hi => ?_⟩⟩
    have e : cur[i]? = some (dv (ds[i]?.getD 0)) := by
      rw [← Array.getElem?_toList, ← List.getElem?_take_of_lt (show i < ds.length * 1 by omega), ht]
      simp [hi]
    simp [World.cell?, hh, e, dv]
set_option maxHeartbeats 800000 in
set_option maxRecDepth 20000 in
/-- The reference's Trim. -/
theorem rtrim_any (oa : Option Addr) (cap : Nat) (ds : List Nat) (w : World) (hl : ds.length ≤ 10000000000000) (hc : ds.length ≤ cap) (ok : OK ds) (hcell : Cells w oa ds) :
    Calls Tryz.prog 68 #[.slice oa ds.length cap] w fun e w' => ∃ v, e = .returned v ∧ Rd w' v (strip ds) ∧ Below w.heap.size w w' := by
  obtain ⟨i0, hi, hz0, hz1, hz2⟩ := info_parts info32
  have hst := hcell.strip
  have oks := OK_strip ok
  have hsl := strip_length_le ds
  go_enter Tryz.func68, Tryz.ntmps68
  go_wp2_with fail
  go_loop [3] (fun n => ∃ k : Nat, k ≤ ds.length ∧ n = .int .i64 k ∧ ∀ i, k ≤ i → ds[i]?.getD 0 = 0) (fun n => (intOf n).toNat)
  case atStart => exact ⟨ds.length, Nat.le_refl _, rfl, fun i hi => by simp [List.getElem?_eq_none hi]⟩
  case round =>
    obtain ⟨k, hk, rfl, hz⟩ := hrel
    by_cases hk0 : 0 < k
    · obtain ⟨j, rfl⟩ : ∃ j, k = j + 1 := ⟨k - 1, by omega⟩
      obtain ⟨b, off, x, ho, gx, Hx⟩ := hcell.get (i := j) (by omega)
      subst ho
      by_cases hd : x = 0
      · subst hd
        have gx' : w.cell? ⟨b, off + j, none⟩ = some (.int .u32 0) := gx
        go_wp2
        go_round
        case rel => exact ⟨j, by omega, by go_num, fun i hi => by rcases Nat.eq_or_lt_of_le hi with h | h; (· rw [← h]; exact Hx.out); (· exact hz i h)⟩
        case measure => simp [intOf]
      · have hd' : ¬ ((x : Nat) : Int) = 0 := by omega
        have hs : (strip ds).length = j + 1 := strip_length_of hk hz (.inr (by have := Hx.out; simp; omega))
        have Hs := hide hs
        have hcs := hst
        rw [strip_take ds, hs] at hcs
        obtain ⟨b', off', ho', hcs'⟩ := hcs.resolve_left (fun e => by have := congrArg List.length e; rw [List.length_take, List.length_nil, Nat.min_eq_left hk] at this; omega)
        cases ho'
        clear hs
        go_wp2_with (at_builtin; refine wpList_append_own _ rfl _ _ 24 rfl w.heap.size 56 i0 (.int .u32 0) 1 4 Tryz.underlying24 hi hz0 hz1 hz2 rfl (by decide) _ _ _ rfl (World.ownsRow_nil _ _ _ _) ⟨b, off, none⟩ (j + 1) cap ((ds.take (j + 1)).map dv) rfl (by rw [List.length_map, List.length_take, Nat.min_eq_left hk, Nat.mul_one]) ?c1 ?c2 ?c3 ?c4 (Nat.le_refl _) ?_)
        case c1 =>
          intro i u hu
          rw [← List.map_take, List.getElem?_map, Option.map_eq_some_iff] at hu
          obtain ⟨d, hd, rfl⟩ := hu
          have hil : i < (ds.take (j + 1)).length := by
            rcases Nat.lt_or_ge i (ds.take (j + 1)).length with h | h
            · exact h
            · rw [List.getElem?_eq_none h] at hd; cases hd
          rw [hcs' i hil, hd]; rfl
        case c2 =>
          intro u hu
          rw [← List.map_take, List.mem_map] at hu
          obtain ⟨d, _, rfl⟩ := hu
          rfl
        case c3 => unfold maxLen; omega
        case c4 => omega
        intro v' w1 hown hgrow _
        have hrd : Rd w1 v' (strip ds) := by
          refine Rd.of_owns oks (B := w.heap.size) ?_
          rw [Hs.out]
          rw [strip_take ds, Hs.out, List.map_take]
          exact hown
        have hb1 : Below w.heap.size w w1 := (Below.refl _ _).grown hgrow (Nat.le_refl _) (fun k hk => by cases hk)
        clear hown hgrow
        go_wp2
        go_ret
        exact ⟨v', rfl, hrd, hb1⟩
    · obtain rfl : k = 0 := by omega
      have hs : (strip ds).length = 0 := strip_length_of hk hz (.inl rfl)
      have hs0 : strip ds = [] := List.length_eq_zero_iff.1 hs
      have Hs := hide hs0
      clear hs hs0
      go_wp2_with (at_builtin; refine wpList_append_nothing rfl _ _ rfl oa cap rfl rfl ?_)
      go_ret
      exact ⟨_, rfl, by rw [Hs.out]; exact ⟨none, 0, rfl, Nat.le_refl _, OK.nil, .inl rfl⟩, Below.refl _ _⟩
end Go.Proofs.YtlomgfgedkkhkaaGreatDoor

