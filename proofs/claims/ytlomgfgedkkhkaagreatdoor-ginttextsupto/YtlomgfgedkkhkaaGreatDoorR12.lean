/- The reference's Text answers the decimal digits. -/
import Derived.Maps.AppendAt
import Derived.Test.YtlomgfgedkkhkaaGreatDoorR14ToR10
namespace Go.Proofs.YtlomgfgedkkhkaaGreatDoor
open Go.RowKit Dig Go.Lib

theorem b8n (d : Nat) (h : d < 10) : (UInt8.ofNat (48 + d)).toNat = 48 + d := by
  rw [UInt8.toNat_ofNat']
  omega
/-- The digits of a number, none of nought. -/
def eD (n : Nat) : List UInt8 := if n = 0 then [] else decDigits n
theorem eD_zero : eD 0 = [] := rfl
theorem eD_step (n : Nat) (h : 0 < n) : eD n = eD (n / 10) ++ [UInt8.ofNat (48 + n % 10)] := by
  unfold eD
  rw [if_neg (by omega)]
  by_cases h10 : n < 10
  · rw [if_pos (by omega), decDigits, dif_pos h10, Nat.mod_eq_of_lt h10]; rfl
  · rw [if_neg (by omega), decDigits, dif_neg h10]
theorem eD_length (n : Nat) : (eD n).length ≤ (decDigits n).length := by
  unfold eD; split <;> simp
theorem pw_le_ten' (L : Nat) : pw L ≤ 10 ^ (10 * L) := by
  rw [pw_eq, Nat.pow_mul, Nat.pow_mul]
  exact Nat.pow_le_pow_left (by decide) L
theorem dec_len' {n L : Nat} (h : n < pw L) (hL : 0 < L) : (decDigits n).length ≤ 10 * L :=
  decDigits_length_le _ _ (by omega) (Nat.lt_of_lt_of_le h (pw_le_ten' L))
theorem rshort_g {w : World} {va : Value} {g : Nat} (hx : Rd w va (dig g)) (hl : (dig g).length ≤ 100000000000) :
    Calls Tryz.prog 112 #[va, .int .u32 1000000000] w fun e w' => ∃ v, e = .returned (.tuple #[v, .int .u32 ((g % 1000000000 : Nat) : Int)]) ∧ Rd w' v (dig (g / 1000000000)) ∧ NewAt w.heap.size v ∧ Below w.heap.size w w' := by
  obtain ⟨oa, ca, rfl, hca, okx, hcx⟩ := hx
  have h := rshort_any oa ca 1000000000 (dig g) w hl hca okx hcx (by decide) (by decide)
  rw [val_dig] at h
  exact h
theorem rtrim_g {w : World} {va : Value} {xs : List Nat} (hx : Rd w va xs) (hl : xs.length ≤ 100000000000) :
    Calls Tryz.prog 68 #[va] w fun e w' => ∃ v, e = .returned v ∧ Rd w' v (dig (val xs)) ∧ Below w.heap.size w w' := by
  obtain ⟨oa, ca, rfl, hca, okx, hcx⟩ := hx
  rw [dig_val okx]
  exact rtrim_any oa ca xs w (by omega) hca okx hcx
/-- v lies in another block than the row that grows. -/
def Apart (v : Value) (ob : Option Nat) : Prop := ∀ a n c, v = .slice (some a) n c → ob ≠ some a.block
theorem Rd.grown {w w' : World} {v : Value} {ds : List Nat} {ob : Option Nat} (h : Rd w v ds) (hg : w.grownBy w' ob) (ho : Apart v ob) : Rd w' v ds := by
  obtain ⟨oa, cap, rfl, hc, ok, hcell⟩ := h
  refine ⟨oa, cap, rfl, hc, ok, ?_⟩
  rcases hcell with h | ⟨b, off, rfl, hcell⟩
  · exact .inl h
  · refine .inr ⟨b, off, rfl, fun i hi => ?_⟩
    have h1 := hcell i hi
    have hne := ho _ _ _ rfl
    rw [← h1]
    have hlt : b < w.heap.size := by
      rcases Nat.lt_or_ge b w.heap.size with h | h
      · exact h
      · simp [World.cell?, Array.getElem?_eq_none h] at h1
    simp only [World.cell?]
    rw [hg.block b hlt (fun e => hne e.symm)]
theorem Rd.lt {w : World} {v : Value} {g : Nat} (h : Rd w v (dig g)) (hg : 0 < g) : ∀ a n c, v = .slice (some a) n c → a.block < w.heap.size := by
  obtain ⟨oa, cap, rfl, hc, ok, hcell⟩ := h
  intro a n c e
  rcases hcell with h | ⟨b, off, rfl, hcell⟩
  · have := val_dig g; rw [h] at this; simp [val] at this; omega
  · cases e
    have hl : 0 < (dig g).length := by
      rcases Nat.eq_zero_or_pos (dig g).length with h | h
      · have e := List.length_eq_zero_iff.1 h
        have := val_dig g; rw [e] at this; simp [val] at this; omega
      · exact h
    have h1 := hcell 0 hl
    rcases Nat.lt_or_ge b w.heap.size with h | h
    · exact h
    · simp [World.cell?, Array.getElem?_eq_none h] at h1
theorem dig_pos {g : Nat} (hg : 0 < g) : 0 < (dig g).length := by
  rcases Nat.eq_zero_or_pos (dig g).length with h | h
  · have e := List.length_eq_zero_iff.1 h
    have := val_dig g; rw [e] at this; simp [val] at this; omega
  · exact h
theorem Rd.empty {w w' : World} {v : Value} (h : Rd w v (dig 0)) : Rd w' v (dig 0) := by
  obtain ⟨oa, cap, rfl, hc, ok, _⟩ := h
  exact ⟨oa, cap, rfl, hc, ok, .inl rfl⟩
theorem tstep {N k gq ri : Nat} {bs : List UInt8} (hk : k < 9) (hp : 0 < gq ∨ 0 < ri) (h : eD N = eD (gq * 10 ^ (9 - k) + ri) ++ bs.reverse) (hr : ri < 10 ^ (9 - k)) :
    eD N = eD (gq * 10 ^ (9 - (k + 1)) + ri / 10) ++ (bs ++ [UInt8.ofNat (48 + ri % 10)]).reverse ∧ ri / 10 < 10 ^ (9 - (k + 1)) := by
  obtain ⟨j, hj⟩ : ∃ j, 9 - k = j + 1 := ⟨8 - k, by omega⟩
  have hj2 : 9 - (k + 1) = j := by omega
  rw [hj] at h hr
  rw [hj2]
  have hpp : 0 < 10 ^ j := Nat.pow_pos (by decide)
  have e : gq * 10 ^ (j + 1) = 10 * (gq * 10 ^ j) := by rw [Nat.pow_succ, ← Nat.mul_assoc, Nat.mul_comm]
  have hM : 0 < gq * 10 ^ (j + 1) + ri := by
    rcases hp with h | h
    · have := Nat.mul_pos h (Nat.pow_pos (n := j + 1) (show 0 < 10 by decide)); omega
    · omega
  rw [Nat.pow_succ] at hr
  refine ⟨?_, by omega⟩
  rw [h, eD_step _ hM, e, List.reverse_append]
  have e1 : (10 * (gq * 10 ^ j) + ri) / 10 = gq * 10 ^ j + ri / 10 := by omega
  have e2 : (10 * (gq * 10 ^ j) + ri) % 10 = ri % 10 := by omega
  rw [e1, e2]
  simp
theorem tend {N k gq ri : Nat} {bs : List UInt8} (he : k = 9 ∨ (gq = 0 ∧ ri = 0)) (h : eD N = eD (gq * 10 ^ (9 - k) + ri) ++ bs.reverse) (hr : ri < 10 ^ (9 - k)) : eD N = eD gq ++ bs.reverse := by
  rcases he with he | ⟨h1, h2⟩
  · subst he
    have : ri = 0 := by simpa using hr
    subst this
    simpa using h
  · subst h1 h2; simpa using h
set_option maxHeartbeats 1000000 in
set_option maxRecDepth 20000 in
theorem rtext_any {w : World} {va : Value} {xs : List Nat} (hx : Rd w va xs) (hl : xs.length ≤ 10000000000) :
    Calls Tryz.prog 85 #[va] w fun e w' => e = .returned (.string ⟨(decDigits (val xs)).toArray⟩) ∧ Below w.heap.size w w' := by
  have m1 : val xs < pw 10000000000 := Nat.lt_of_lt_of_le (val_lt hx.ok) (pw_mono hl)
  have dl := Nat.le_trans (eD_length _) (dec_len' m1 (by omega))
  have lN : (dig (val xs)).length ≤ 10000000000 := dig_length_le m1
  clear m1
  generalize hN : val xs = N at *
  have HN := hide hN
  clear hN
  by_cases hz : N = 0
  · subst hz
    go_enter Tryz.func85, Tryz.ntmps85
    go_wp2_with fail
    refine (rtrim_g hx (by omega)).mono ?_
    rintro e w1 ⟨v, rfl, hv, hb⟩
    rw [HN.out] at hv
    obtain ⟨oa, ca, rfl, _, _, _⟩ := hv
    have h0 : (dig 0).length = 0 := rfl
    rw [h0]
    go_wp2_with fail
    go_ret
    refine ⟨?_, hb⟩
    rw [Lib.decDigits_one (by decide)]; rfl
  · have HZ := hide (show decDigits N = eD N by unfold eD; rw [if_neg hz])
    rw [HZ.out]
    obtain ⟨i1, hi', hy0, hy1, hy2⟩ := info_parts info5
    go_enter Tryz.func85, Tryz.ntmps85
    go_wp2_with fail
    refine (rtrim_g hx (by omega)).mono ?_
    rintro e w1 ⟨v, rfl, hv, hb⟩
    rw [HN.out] at hv
    have hp := dig_pos (g := N) (by omega)
    have htest : ((((dig N).length : Nat) : Int) == 0) = false := by
      have : ¬ (((dig N).length : Nat) : Int) = 0 := by omega
      simpa using this
    have hv' := hv
    obtain ⟨oa, ca, rfl, _, _, _⟩ := hv'
    go_wp2_with fail
    go_loopg [3, 4] N (fun g vx vb wr => Rd wr vx (dig g) ∧ g ≤ N ∧ ∃ bs : List UInt8, wr.ownsRow w.heap.size 5 1 vb bs.length (byteCells bs) ∧ Below w.heap.size w wr ∧ eD N = eD g ++ bs.reverse)
    case atStart => exact ⟨hv, Nat.le_refl _, [], World.ownsRow_nil _ _ _ _, hb, by simp⟩
    case round =>
      obtain ⟨hvx, hgN, bs, hown, hbr, heq⟩ := hrel
      have Heq := hide heq
      clear heq
      by_cases hg : 0 < gk
      · have hlg := dig_pos hg
        have hlg2 : (dig gk).length ≤ 100000000000 := Nat.le_trans (dig_length_le (Nat.lt_of_le_of_lt (Nat.le_trans hgN (Nat.le_of_eq (val_dig N).symm)) (val_lt (OK_dig N)))) (by omega)
        have hvx' := hvx
        obtain ⟨ox, cx, rfl, _, _, _⟩ := hvx'
        go_wp2_with fail
        refine (rshort_g hvx hlg2).mono ?_
        rintro e w2 ⟨vq, rfl, hq, hnew, hb2⟩
        have hq' := hq
        obtain ⟨oq, cq, rfl, _, _, _⟩ := hq'
        have hap : gk / 1000000000 = 0 ∨ Apart (.slice oq (dig (gk / 1000000000)).length cq) u4.ownBlock := by
          refine .inr fun a n c e hk => ?_
          have h1 := (hown.lt _ hk).2
          have h2 := hnew a n c e
          omega
        have hown2 := own_below hown hb2
        have hbr2 := hbr.trans (hb2.mono hbr.size)
        have hdm : gk / 1000000000 * 10 ^ 9 + gk % 1000000000 = gk := by omega
        have hr9 : gk % 1000000000 < 10 ^ (9 - 0) := by omega
        have hqlt : gk / 1000000000 < gk := by omega
        generalize gk % 1000000000 = r0 at *
        generalize gk / 1000000000 = gq at *
        have hlq2 : (dig gq).length ≤ 100000000000 := Nat.le_trans (dig_length_le (Nat.lt_of_le_of_lt (Nat.le_trans (Nat.le_of_lt hqlt) (Nat.le_trans hgN (Nat.le_of_eq (val_dig N).symm))) (val_lt (OK_dig N)))) (by omega)
        have hlq0 : 0 < gq → 0 < (dig gq).length := dig_pos
        have hlqz : gq = 0 → (dig gq).length = 0 := fun h => by subst h; rfl
        have Heq2 : Hid (eD N = eD (gq * 10 ^ (9 - 0) + r0) ++ bs.reverse) := by
          show _ = _
          rw [show 9 - 0 = 9 from rfl, hdm]; exact Heq.out
        clear hown hbr hnew hb2 hvx hdm Heq
        obtain ⟨lq, hlq⟩ : ∃ lq, (dig gq).length = lq := ⟨_, rfl⟩
        rw [hlq] at hlq2 hlq0 hlqz hap hq ⊢
        have HLQ := hide hlq
        clear hlq
        go_wp2_with fail
        go_loopw [4, 6, 7] (fun vb r i wx => ∃ (k ri : Nat) (bs : List UInt8), k ≤ 9 ∧ i = .int .i64 (k : Int) ∧ r = .int .u32 (ri : Int) ∧ ri < 10 ^ (9 - k) ∧ wx.ownsRow w.heap.size 5 1 vb bs.length (byteCells bs) ∧ Below w.heap.size w wx ∧
          Rd wx (.slice oq lq cq) (dig gq) ∧ (gq = 0 ∨ Apart (.slice oq lq cq) vb.ownBlock) ∧ Hid (eD N = eD (gq * 10 ^ (9 - k) + ri) ++ bs.reverse)) (fun _ _ i _ => 9 - (RowKit.intOf i).toNat)
        case atStart => exact ⟨0, r0, bs, by omega, rfl, rfl, hr9, hown2, hbr2, hq, hap, Heq2⟩
        case round =>
          clear hown2 hbr2 hq hap Heq2 hr9
          obtain ⟨k, ri, bs2, hk9, rfl, rfl, hri, hown, hbr, hq, hap, Heq⟩ := hrel
          have hbl : bs2.length ≤ 100000000000 := by
            have h := congrArg List.length Heq.out
            rw [List.length_append, List.length_reverse] at h
            omega
          have hrib : ri < 1000000000 := Nat.lt_of_lt_of_le hri ((Nat.pow_le_pow_right (by decide) (by omega) : 10 ^ (9 - k) ≤ 10 ^ 9))
          by_cases hin : k < 9 ∧ (0 < gq ∨ 0 < ri)
          · obtain ⟨hk, hp⟩ := hin
            obtain ⟨hst1, hst2⟩ := tstep hk hp Heq.out hri
            have HST := hide hst1
            have hp' : 0 < lq ∨ (lq = 0 ∧ 0 < ri) := by
              rcases Nat.eq_zero_or_pos gq with h | h
              · exact .inr ⟨hlqz h, by omega⟩
              · exact .inl (hlq0 h)
            clear hst1 Heq hri
            rcases hp' with hp1 | ⟨hp1, hp2⟩
            · skip
              go_wp2_with (at_builtin; refine wpList_append_own_at _ rfl _ _ 110 rfl w.heap.size 5 i1 (.int .u8 0) 1 1 Tryz.underlying110 hi' hy0 hy1 hy2 rfl (by decide) _ _ _ rfl (hown.alloc _) ⟨wr.heap.size, 0, none⟩ 1 1 [.int .u8 ((48 + ri % 10 : Nat) : Int)] rfl rfl ?c1 ?c2 ?c3 ?c4 ?c5 ?_)
              case c1 =>
                intro j u hj
                match j, hj with
                | 0, hj => simp at hj; subst hj; simp [Addr.add]
              case c2 => intro u hu; simp at hu; subst hu; rfl
              case c3 => unfold maxLen; omega
              case c4 => omega
              case c5 => have := hbr.size; simp; omega
              intro v' w3 hown3 hgrow hnn hob
              have hown3' : w3.ownsRow w.heap.size 5 1 v' (bs2 ++ [UInt8.ofNat (48 + ri % 10)]).length (byteCells (bs2 ++ [UInt8.ofNat (48 + ri % 10)])) := by
                have e : byteCells (bs2 ++ [UInt8.ofNat (48 + ri % 10)]) = byteCells bs2 ++ [.int .u8 ((48 + ri % 10 : Nat) : Int)] := by
                  unfold byteCells
                  rw [List.map_append, List.map_cons, List.map_nil, b8n _ (by omega)]
                rw [e, List.length_append]; exact hown3
              have hq3 : Rd w3 (.slice oq lq cq) (dig gq) := by
                rcases hap with h | h
                · subst h; exact hq.empty
                · exact (hq.alloc _).grown hgrow h
              have hap3 : gq = 0 ∨ Apart (.slice oq lq cq) v'.ownBlock := by
                by_cases hg0 : gq = 0
                · exact .inl hg0
                · refine .inr ?_
                  rcases hob with h | h
                  · rw [h]; exact hap.resolve_left hg0
                  · rw [h]
                    intro a n c e he
                    have h1 := hq.lt (by omega) a n c e
                    simp at he
                    omega
              have hbr3 : Below w.heap.size w w3 := (hbr.alloc hbr.size _).grown hgrow (by have := hbr.size; simp; omega) (fun k hk => (hown.lt k hk).1)
              clear hown3 hgrow hnn hob hq hown hap
              go_wp2
              go_roundw
              case rel => exact ⟨k + 1, ri / 10, bs2 ++ [UInt8.ofNat (48 + ri % 10)], by omega, by go_num, rfl, hst2, hown3', hbr3, hq3, hap3, HST⟩
              case measure => simp [RowKit.intOf]; omega
            · subst hp1
              go_wp2_with (at_builtin; refine wpList_append_own_at _ rfl _ _ 110 rfl w.heap.size 5 i1 (.int .u8 0) 1 1 Tryz.underlying110 hi' hy0 hy1 hy2 rfl (by decide) _ _ _ rfl (hown.alloc _) ⟨wr.heap.size, 0, none⟩ 1 1 [.int .u8 ((48 + ri % 10 : Nat) : Int)] rfl rfl ?d1 ?d2 ?d3 ?d4 ?d5 ?_)
              case d2 => rfl
              case d3 => unfold maxLen; omega
              case d4 => omega
              case d5 => have := hbr.size; simp; omega
              intro v' w3 hown3 hgrow hnn hob
              have hown3' : w3.ownsRow w.heap.size 5 1 v' (bs2 ++ [UInt8.ofNat (48 + ri % 10)]).length (byteCells (bs2 ++ [UInt8.ofNat (48 + ri % 10)])) := by
                have e : byteCells (bs2 ++ [UInt8.ofNat (48 + ri % 10)]) = byteCells bs2 ++ [.int .u8 ((48 + ri % 10 : Nat) : Int)] := by
                  unfold byteCells
                  rw [List.map_append, List.map_cons, List.map_nil, b8n _ (by omega)]
                rw [e, List.length_append]; exact hown3
              have hq3 : Rd w3 (.slice oq 0 cq) (dig gq) := by
                rcases hap with h | h
                · subst h; exact hq.empty
                · exact (hq.alloc _).grown hgrow h
              have hap3 : gq = 0 ∨ Apart (.slice oq 0 cq) v'.ownBlock := by
                by_cases hg0 : gq = 0
                · exact .inl hg0
                · refine .inr ?_
                  rcases hob with h | h
                  · rw [h]; exact hap.resolve_left hg0
                  · rw [h]
                    intro a n c e he
                    have h1 := hq.lt (by omega) a n c e
                    simp at he
                    omega
              have hbr3 : Below w.heap.size w w3 := (hbr.alloc hbr.size _).grown hgrow (by have := hbr.size; simp; omega) (fun k hk => (hown.lt k hk).1)
              clear hown3 hgrow hnn hob hq hown hap
              go_wp2
              go_roundw
              case rel => exact ⟨k + 1, ri / 10, bs2 ++ [UInt8.ofNat (48 + ri % 10)], by omega, by go_num, rfl, hst2, hown3', hbr3, hq3, hap3, HST⟩
              case measure => simp [RowKit.intOf]; omega
          · have he : k = 9 ∨ (gq = 0 ∧ ri = 0) := by omega
            have HE := hide (tend he Heq.out hri)
            clear Heq hri
            have he' : k = 9 ∨ (k < 9 ∧ lq = 0 ∧ ri = 0) := by
              rcases he with h | ⟨h1, h2⟩
              · exact .inl h
              · by_cases h9 : k = 9
                · exact .inl h9
                · exact .inr ⟨by omega, hlqz h1, h2⟩
            clear he hin
            rcases he' with hk | ⟨hk, hl0, hr0⟩
            · subst hk
              go_wp2
              go_roundg gq
              case measure => exact hqlt
              case rel => exact ⟨hq, by omega, bs2, hown, hbr, HE.out⟩
            · subst hl0 hr0
              go_wp2
              go_roundg gq
              case measure => exact hqlt
              case rel => exact ⟨hq, by omega, bs2, hown, hbr, HE.out⟩
      · obtain rfl : gk = 0 := by omega
        have hvx' := hvx
        obtain ⟨ox, cx, rfl, _, _, _⟩ := hvx'
        have h0 : (dig 0).length = 0 := rfl
        rw [h0]
        have hrev : bs.reverse = eD N := by have := Heq.out; rw [eD_zero, List.nil_append] at this; exact this.symm
        have hbl : bs.length ≤ 100000000000 := by
          have h := congrArg List.length hrev
          rw [List.length_reverse] at h
          omega
        have hbp : 0 < bs.length := by
          have h := congrArg List.length hrev
          rw [List.length_reverse, eD, if_neg hz] at h
          have := Lib.nDigits_pos N
          rw [← Lib.decDigits_length] at this
          omega
        have HR := hide hrev
        clear hrev Heq
        obtain ⟨gb, cb, hu, hgB⟩ : ∃ gb cb, u4 = .slice (some ⟨gb, 0, none⟩) bs.length cb ∧ gb < wr.heap.size := by
          rcases hown.2 with ⟨_, h⟩ | ⟨g, cap', cur, h, _⟩
          · omega
          · exact ⟨g, cap', h, (hown.lt g (by rw [h]; rfl)).2⟩
        subst hu
        have hcell : ∀ j, j < bs.length → wr.cell? ⟨gb, j, none⟩ = some (.int .u8 ((bs[j]?.getD 0).toNat : Int)) := fun j hj => by
          have h1 := hown.cellAt j (by omega)
          rw [h1]
          simp [Lib.byteCells, hj]
        obtain ⟨B, HB⟩ : ∃ B, Hid (wr.heap.size = B) := ⟨_, hide rfl⟩
        obtain ⟨W0, HW0⟩ : ∃ W0, Hid (W0 = wr) := ⟨_, hide rfl⟩
        have hgB' : gb < B := by rw [← HB.out]; exact hgB
        have HCC : Hid (∀ j, j < bs.length → W0.cell? ⟨gb, j, none⟩ = some (.int .u8 ((bs[j]?.getD 0).toNat : Int))) := by rw [HW0.out]; exact hide hcell
        have hbW : Below w.heap.size w W0 := by rw [HW0.out]; exact hbr
        have hBs : w.heap.size ≤ B := by rw [← HB.out]; exact hbr.size
        have hW0 : Below B W0 wr := by rw [HW0.out]; exact Below.refl _ _
        have hBw : W0.heap.size = B := by rw [HW0.out]; exact HB.out
        have HBW := hide hBw
        clear hcell hown hbr hgB hBw hvx
        go_wp2_with fail
        go_loopw [8, 9] (fun vo i wx => ∃ k : Nat, k ≤ bs.length ∧ i = .int .i64 ((k : Int) - 1) ∧ wx.ownsRow B 5 1 vo (bs.drop k).reverse.length (byteCells (bs.drop k).reverse) ∧ Below B W0 wx) (fun _ i _ => (RowKit.intOf i + 1).toNat)
        case atStart => exact ⟨bs.length, Nat.le_refl _, rfl, by rw [List.drop_length]; exact World.ownsRow_nil _ _ _ _, hW0⟩
        case round =>
          clear hW0
          obtain ⟨k, hk, rfl, hown, hbx⟩ := hrel
          have hszB : B ≤ wr.heap.size := by have h := hbx.size; rw [HBW.out] at h; exact h
          by_cases hk0 : 0 < k
          · obtain ⟨j, rfl⟩ : ∃ j, k = j + 1 := ⟨k - 1, by omega⟩
            have gj := (hbx.cell (p := ⟨gb, j, none⟩) hgB').trans (HCC.out j (by omega))
            obtain ⟨c, Hc⟩ : ∃ c, Hid (bs[j]?.getD 0 = c) := ⟨_, hide rfl⟩
            rw [Hc.out] at gj
            rw [show ((j + 1 : Nat) : Int) - 1 = (j : Int) from by omega]
            have hdrop : (bs.drop j).reverse = (bs.drop (j + 1)).reverse ++ [c] := by
              rw [List.drop_eq_getElem_cons (by omega : j < bs.length), List.reverse_cons]
              have := Hc.out
              rw [List.getElem?_eq_getElem (by omega : j < bs.length)] at this
              simp at this
              rw [this]
            have HDR := hide hdrop
            have hdl : (bs.drop (j + 1)).reverse.length ≤ bs.length := by simp
            clear hdrop
            go_wp2_with (at_builtin; refine wpList_append_own _ rfl _ _ 110 rfl B 5 i1 (.int .u8 0) 1 1 Tryz.underlying110 hi' hy0 hy1 hy2 rfl (by decide) _ _ _ rfl (hown.alloc _) ⟨wr.heap.size, 0, none⟩ 1 1 [.int .u8 (c.toNat : Int)] rfl rfl ?e1 ?e2 ?e3 ?e4 ?e5 ?_)
            case e1 =>
              intro j u hj
              match j, hj with
              | 0, hj => simp at hj; subst hj; simp [Addr.add]
            case e2 => intro u hu; simp at hu; subst hu; rfl
            case e3 => unfold maxLen; omega
            case e4 => omega
            case e5 => simp; omega
            intro v' w3 hown3 hgrow hnn
            have hown3' : w3.ownsRow B 5 1 v' (bs.drop j).reverse.length (byteCells (bs.drop j).reverse) := by
              rw [HDR.out]
              have e : byteCells ((bs.drop (j + 1)).reverse ++ [c]) = byteCells (bs.drop (j + 1)).reverse ++ [.int .u8 (c.toNat : Int)] := by
                unfold byteCells
                rw [List.map_append, List.map_cons, List.map_nil]
              rw [e, List.length_append]; simpa using hown3
            have hb3 : Below B W0 w3 := (hbx.alloc hszB _).grown hgrow (by simp; omega) (fun k hk => (hown.lt k hk).1)
            clear hown3 hgrow hnn hown
            go_wp2
            go_roundw
            case rel => exact ⟨j, by omega, rfl, hown3', hb3⟩
            case measure => simp [RowKit.intOf]
          · obtain rfl : k = 0 := by omega
            rw [List.drop_zero, HR.out] at hown
            have hpos : 0 < (eD N).length := by rw [← HR.out, List.length_reverse]; exact hbp
            obtain ⟨go', co, hu8⟩ : ∃ gb cb, u8 = .slice (some ⟨gb, 0, none⟩) (eD N).length cb := by
              rcases hown.2 with ⟨_, hz⟩ | ⟨gb, cb, _, h, _⟩
              · omega
              · exact ⟨gb, cb, h⟩
            subst hu8
            have hcv := run_convert_bytes_back (P := Tryz.prog) wr 110 9 5 ⟨go', 0, none⟩ co (eD N) Tryz.underlying110 Tryz.underlying5 Tryz.underlying9 (fun j hj => by
              have h1 := hown.cellAt j (by omega)
              rw [Lib.add_plain, Nat.zero_add, h1]
              simp [Lib.byteCells, hj])
            go_wp2
            go_ret
            exact ⟨rfl, hbW.trans (hbx.mono hBs)⟩
end Go.Proofs.YtlomgfgedkkhkaaGreatDoor

