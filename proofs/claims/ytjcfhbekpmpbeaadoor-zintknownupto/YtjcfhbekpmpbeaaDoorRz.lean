/- Whole numbers and the blocks that hold a struct Z: a store into such a block leaves all numbers that are read. -/
import Derived.Test.YtjcfhbekpmpbeaaDoorRf
import Derived.Test.YtjcfhbekpmpbeaaDoorY7
namespace Go.Proofs.YtjcfhbekpmpbeaaDoor
open Go.RowKit Dig

/-- A block that holds a sign and a slice. -/
def Bx (w : World) (b : Nat) : Prop := ∃ neg oa n c, Bk w b neg (.slice oa n c)
theorem Bk.bx {w : World} {b : Nat} {neg : Bool} {oa : Option Addr} {n c : Nat} (h : Bk w b neg (.slice oa n c)) : Bx w b := ⟨neg, oa, n, c, h⟩

theorem Bx.ne {w : World} {b c off : Nat} {d : Nat} (h : Bx w b) (hc : w.cell? ⟨c, off, none⟩ = some (.int .u32 (d : Int))) : c ≠ b := by
  rintro rfl
  obtain ⟨neg, oa, n, k, hb⟩ := h
  unfold Bk at hb
  simp only [World.cell?, hb] at hc
  rcases off with _ | _ | off
  · simp at hc
  · simp at hc
  · simp at hc
theorem Cells.frame {w w' : World} {b : Nat} {oa : Option Addr} {ds : List Nat} (h : Cells w oa ds) (hb : Bx w b) (ho : Only b w w') : Cells w' oa ds := by
  by_cases hne : ds = []
  · exact .inl hne
  · have h2 := h
    obtain ⟨c, off, e, hc⟩ := h2.resolve_left hne
    refine h.only ho ?_
    intro a ha
    rw [e] at ha
    cases ha
    exact hb.ne (hc 0 (List.length_pos_iff.2 hne))
theorem Rd.frame {w w' : World} {b : Nat} {v : Value} {ds : List Nat} (h : Rd w v ds) (hb : Bx w b) (ho : Only b w w') : Rd w' v ds := by
  obtain ⟨oa, cap, hv, hc, ok, hx⟩ := h
  exact ⟨oa, cap, hv, hc, ok, hx.frame hb ho⟩
theorem Row.frame {w w' : World} {b c : Nat} {xs : List Nat} (h : Row w c xs) (hb : Bx w b) (ho : Only b w w') : Row w' c xs := by
  refine ho.row h ?_
  rintro rfl
  obtain ⟨neg, oa, n, k, hb⟩ := hb
  unfold Bk at hb
  rw [h.1] at hb
  simp only [Option.some.injEq, Obj.cells.injEq] at hb
  have h3 := hb.2.1
  revert h3
  decide
theorem Own.frame {w w' : World} {B b : Nat} {v : Value} {ds : List Nat} (h : Own w B v ds) (hb : Bx w b) (ho : Only b w w') : Own w' B v ds := by
  obtain ⟨oa, cap, hv, hc, h0 | ⟨c, off, xs, hoa, hB', hr, hx, hd⟩⟩ := h
  · exact ⟨oa, cap, hv, hc, .inl h0⟩
  · exact ⟨oa, cap, hv, hc, .inr ⟨c, off, xs, hoa, hB', hr.frame hb ho, hx, hd⟩⟩
theorem ZN.frame {w w' : World} {b : Nat} {v : Value} {z : Int} {l : Nat} (h : ZN w v z l) (hb : Bx w b) (ho : Only b w w') : ZN w' v z l := by
  obtain ⟨neg, s, xs, hv, hr, hz, hl⟩ := h
  exact ⟨neg, s, xs, hv, hr.frame hb ho, hz, hl⟩
theorem ZC.frame {w w' : World} {b : Nat} {v : Value} {z : Int} (h : ZC w v z) (hb : Bx w b) (ho : Only b w w') : ZC w' v z := by
  obtain ⟨s, hv, hr⟩ := h
  exact ⟨s, hv, hr.frame hb ho⟩
theorem ZO.frame {w w' : World} {B b : Nat} {v : Value} {z : Int} (h : ZO w B v z) (hb : Bx w b) (ho : Only b w w') : ZO w' B v z := by
  obtain ⟨s, hv, hr⟩ := h
  exact ⟨s, hv, hr.frame hb ho⟩
theorem ZW.frame {w w' : World} {B b : Nat} {v : Value} {z : Int} (h : ZW w B v z) (hb : Bx w b) (ho : Only b w w') : ZW w' B v z := by
  obtain ⟨s, hv, hr, hn⟩ := h
  exact ⟨s, hv, hr.frame hb ho, hn⟩
theorem ZC.open2 {w : World} {v : Value} {z : Int} (h : ZC w v z) : ∃ sb oa n cap, v = .agg #[.bool sb, .slice oa n cap] := by
  obtain ⟨s, rfl, oa, cap, rfl, _⟩ := h
  exact ⟨_, oa, _, cap, rfl⟩
theorem ZN.open2 {w : World} {v : Value} {z : Int} {l : Nat} (h : ZN w v z l) : ∃ sb oa n cap, v = .agg #[.bool sb, .slice oa n cap] := by
  obtain ⟨neg, s, xs, rfl, ⟨oa, cap, rfl, _⟩, _⟩ := h
  exact ⟨_, oa, _, cap, rfl⟩

theorem Own.drew {w : World} {B : Nat} {v : Value} {ds : List Nat} (h : Own w B v ds) : Own w.drew B v ds := h.below ((Below.refl w.heap.size w).drew) (Nat.le_refl _)
theorem Own.alloc {w : World} {B : Nat} {v : Value} {ds : List Nat} (h : Own w B v ds) (o : Obj) : Own (w.alloc o) B v ds := h.below ((Below.refl w.heap.size _).alloc (Nat.le_refl _) o) (Nat.le_refl _)
theorem ZO.drew {w : World} {B : Nat} {v : Value} {z : Int} (h : ZO w B v z) : ZO w.drew B v z := h.below ((Below.refl w.heap.size w).drew) (Nat.le_refl _)
theorem ZO.alloc {w : World} {B : Nat} {v : Value} {z : Int} (h : ZO w B v z) (o : Obj) : ZO (w.alloc o) B v z := h.below ((Below.refl w.heap.size _).alloc (Nat.le_refl _) o) (Nat.le_refl _)
theorem ZW.below {w w' : World} {B : Nat} {v : Value} {z : Int} (h : ZW w B v z) {C : Nat} (hb : Below C w w') (hB : w.heap.size ≤ C) : ZW w' B v z := by
  obtain ⟨s, hv, hr, hn⟩ := h
  exact ⟨s, hv, hr.below hb hB, hn⟩
theorem ZW.drew {w : World} {B : Nat} {v : Value} {z : Int} (h : ZW w B v z) : ZW w.drew B v z := h.below ((Below.refl w.heap.size w).drew) (Nat.le_refl _)
theorem ZW.alloc {w : World} {B : Nat} {v : Value} {z : Int} (h : ZW w B v z) (o : Obj) : ZW (w.alloc o) B v z := h.below ((Below.refl w.heap.size _).alloc (Nat.le_refl _) o) (Nat.le_refl _)
theorem ZO.zn {w : World} {B : Nat} {v : Value} {z : Int} (h : ZO w B v z) {l : Nat} (hl : (dig z.natAbs).length ≤ l) : ZN w v z l := h.rd.zn hl

/-- The block laid for a variable of type Z. -/
def obZ : Obj := .cells #[.bool false, .slice none 0 0] 36
theorem run_alloc_z {ρ : Operand → Value} {dst : Option Tmp} {ty : TypeId} {pos : String} {after : Array Edge} (w : World) :
    (execOp ρ { dst, op := .alloc 36, type := ty, pos, after, guard := none }).run Tryd.prog w = .ok (.value (ptr w.heap.size)) (w.alloc obZ) := by
  unfold obZ ptr
  simp [go_sem]
theorem obZ_bk {w : World} {p : Nat} (h : w.heap[p]? = some obZ) : Bk w p false (.slice none 0 0) := h
end Go.Proofs.YtjcfhbekpmpbeaaDoor
