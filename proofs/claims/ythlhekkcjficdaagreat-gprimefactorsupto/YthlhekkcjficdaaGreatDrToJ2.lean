/- No step of the machine lowers the number of answers drawn: a contract tells of `drawn` too. -/
import Derived.Calls
import Derived.Below
import Derived.Sort.Grow
import Derived.Deep.Draws
import Derived.Test.YthlhekkcjficdaaGreatWkToG2
import Derived.Test.YthlhekkcjficdaaGreatT1ToG7
import Derived.Shelf.SlSortCmp.InsertionK

namespace Go.Proofs.YthlhekkcjficdaaGreat
open Go
namespace Drawn
theorem ask_up {α : Type} (w : World) (a : Ask α) : w.drawn ≤ (w.ask a).2.drawn := by
  induction a generalizing w with
  | done a => simp [World.ask]
  | ask what range k ih =>
    simp only [World.ask]
    split
    · exact ih 0 w
    · exact Nat.le_trans (Nat.le_succ _) (ih _ { w with drawn := w.drawn + 1 })
theorem sys_up (w : World) (c : Sys) : w.drawn ≤ (w.sys c).2.drawn := by
  have h := ask_up w (Kernel.perform c w.os)
  unfold World.sys
  split
  · exact Nat.le_refl _
  · rename_i hh
    rw [hh] at h
    exact h
theorem freeze_up (w : World) (a : Addr) (n : Nat) : (w.freeze a n).drawn = w.drawn := by
  unfold World.freeze
  split <;> rfl
theorem viewStore_up {p : Program} {w w' : World} {at_ : Addr} {u : TypeId} {k : Addr} {v : Value} {atomic : Bool} {l : List Addr} (h : w.viewStore p at_ u k v atomic = .ok (w', l)) : w'.drawn = w.drawn := by
  unfold World.viewStore at h
  simp only [bind, Except.bind, pure, Except.pure] at h
  repeat' split at h
  all_goals first | (injection h with h; injection h with h1 h2; rw [← h1]) | (exact nomatch h) | skip
theorem farStore_up {p : Program} {w w' : World} {a : Addr} {v : Value} {atomic : Bool} {l : List Addr} (h : w.farStore p a v atomic = .ok (w', l)) : w'.drawn = w.drawn := by
  unfold World.farStore at h
  split at h
  · split at h
    · rename_i hh
      injection h with h
      subst h
      exact viewStore_up hh
    · exact nomatch h
  · exact nomatch h
def UpR {α : Type} (w : World) : Result α → Prop
  | .ok _ w' => w.drawn ≤ w'.drawn
  | .halt _ w' => w.drawn ≤ w'.drawn
theorem UpR.le {α : Type} {a b : World} {r : Result α} (h : UpR b r) (e : a.drawn ≤ b.drawn) : UpR a r := by
  cases r with
  | ok _ _ => exact Nat.le_trans e h
  | halt _ _ => exact Nat.le_trans e h
theorem run_up {α : Type} (p : Program) (s : Sem α) (w : World) : UpR w (s.run p w) := by
  induction s generalizing w with
  | pure a => exact Nat.le_refl _
  | load m a k ih =>
    simp only [Sem.run]
    repeat' split
    all_goals first | exact ih _ _ | exact Nat.le_refl _
  | store m a v k ih =>
    cases v <;> simp only [Sem.run] <;> first | exact Nat.le_refl _ | skip
    all_goals
      split
      · split
        · exact Nat.le_refl _
        · exact (ih _).le (Nat.le_refl _)
      · split
        · rename_i hh
          exact (ih _).le (Nat.le_of_eq (farStore_up hh).symm)
        · exact Nat.le_refl _
  | new o k ih => exact (ih _ _).le (Nat.le_refl _)
  | shape r k ih => exact ih _ _
  | freeze a n k ih => exact (ih _).le (Nat.le_of_eq (freeze_up w a n).symm)
  | frozen a k ih => exact ih _ _
  | getObj r k ih =>
    simp only [Sem.run]
    repeat' split
    all_goals first | exact ih _ _ | exact Nat.le_refl _
  | setObj r o k ih =>
    simp only [Sem.run]
    repeat' split
    all_goals first | exact (ih _).le (Nat.le_refl _) | exact Nat.le_refl _
  | choose q k ih =>
    simp only [Sem.run]
    split
    · exact ih _ _
    · exact (ih _ _).le (Nat.le_succ _)
  | sys c k ih => exact (ih _ _).le (sys_up w c)
  | program k ih => exact ih _ _
  | mark m k ih => exact ih _
  | halt h => exact Nat.le_refl _
theorem runT_up {α : Type} (p : Program) (s : Sem α) (w : World) (es : Array Event) : UpR w (s.runT p w es).1 := by
  induction s generalizing w es with
  | pure a => exact Nat.le_refl _
  | load m a k ih =>
    simp only [Sem.runT]
    repeat' split
    all_goals first | exact ih _ _ _ | exact Nat.le_refl _
  | store m a v k ih =>
    cases v <;> simp only [Sem.runT] <;> first | exact Nat.le_refl _ | skip
    all_goals
      split
      · split
        · exact Nat.le_refl _
        · exact (ih _ _).le (Nat.le_refl _)
      · split
        · rename_i hh
          exact (ih _ _).le (Nat.le_of_eq (farStore_up hh).symm)
        · exact Nat.le_refl _
  | new o k ih => exact (ih _ _ _).le (Nat.le_refl _)
  | shape r k ih => exact ih _ _ _
  | freeze a n k ih => exact (ih _ _).le (Nat.le_of_eq (freeze_up w a n).symm)
  | frozen a k ih => exact ih _ _ _
  | getObj r k ih =>
    simp only [Sem.runT]
    repeat' split
    all_goals first | exact ih _ _ _ | exact Nat.le_refl _
  | setObj r o k ih =>
    simp only [Sem.runT]
    repeat' split
    all_goals first | exact (ih _ _).le (Nat.le_refl _) | exact Nat.le_refl _
  | choose q k ih =>
    simp only [Sem.runT]
    split
    · exact ih _ _ _
    · exact (ih _ _ _).le (Nat.le_succ _)
  | sys c k ih => exact (ih _ _ _).le (sys_up w c)
  | program k ih => exact ih _ _ _
  | mark m k ih => exact ih _ _
  | halt h => exact Nat.le_refl _
def UpG (w : World) : GStep → Prop
  | .go _ w' _ => w.drawn ≤ w'.drawn
  | .comm _ _ _ _ w' _ => w.drawn ≤ w'.drawn
  | .spawn _ _ w' _ => w.drawn ≤ w'.drawn
  | .count _ w' _ => w.drawn ≤ w'.drawn
  | .timer _ _ w' _ => w.drawn ≤ w'.drawn
  | .alone _ _ w' _ => w.drawn ≤ w'.drawn
  | .newcoro _ _ _ w' _ => w.drawn ≤ w'.drawn
  | .coroswitch _ _ _ w' _ => w.drawn ≤ w'.drawn
  | .collect _ w' _ => w.drawn ≤ w'.drawn
  | .watch _ w' _ => w.drawn ≤ w'.drawn
  | .ended _ _ _ => True
theorem UpG.after {w : World} {s : GStep} (h : UpG w s) (es : Array Event) : UpG w (GStep.after es s) := by
  cases s <;> exact h
theorem UpG.le {a b : World} {s : GStep} (h : UpG b s) (e : a.drawn ≤ b.drawn) : UpG a s := by
  cases s <;> first | exact trivial | exact Nat.le_trans e h
theorem up_ite {w : World} {c : Prop} [Decidable c] {a b : GStep} (ha : UpG w a) (hb : UpG w b) : UpG w (if c then a else b) := by
  split <;> assumption
/-- what a run left. -/
theorem run_ok {α : Type} {p : Program} {s : Sem α} {w w' : World} {a : α} (h : s.run p w = .ok a w') : w.drawn ≤ w'.drawn := by
  have := run_up p s w
  rw [h] at this
  exact this
theorem run_halt {α : Type} {p : Program} {s : Sem α} {w w' : World} {e : Halt} (h : s.run p w = .halt e w') : w.drawn ≤ w'.drawn := by
  have := run_up p s w
  rw [h] at this
  exact this
theorem runT_ok {α : Type} {p : Program} {s : Sem α} {w w' : World} {a : α} {es : Array Event} (h : (s.runT p w es).1 = .ok a w') : w.drawn ≤ w'.drawn := by
  have := runT_up p s w es
  rw [h] at this
  exact this
theorem runT_halt {α : Type} {p : Program} {s : Sem α} {w w' : World} {e : Halt} {es : Array Event} (h : (s.runT p w es).1 = .halt e w') : w.drawn ≤ w'.drawn := by
  have := runT_up p s w es
  rw [h] at this
  exact this
theorem runT_ok2 {α : Type} {p : Program} {s : Sem α} {w w' : World} {a : α} {es es' : Array Event} (h : s.runT p w es = (.ok a w', es')) : w.drawn ≤ w'.drawn := by
  have := runT_up p s w es
  rw [h] at this
  exact this
theorem runT_halt2 {α : Type} {p : Program} {s : Sem α} {w w' : World} {e : Halt} {es es' : Array Event} (h : s.runT p w es = (.halt e w', es')) : w.drawn ≤ w'.drawn := by
  have := runT_up p s w es
  rw [h] at this
  exact this
theorem endWith_up (w : World) (fd : Nat) (text : ByteArray) (o : Outcome) : UpG w (endWith w fd text o) := by
  unfold endWith
  dsimp only
  repeat' split
  all_goals exact trivial
theorem dieOf_up (fr : Frame) (l : List ByteArray) (m : String) (b : Bool) (w : World) : UpG w (dieOf fr l m b w) := Nat.le_refl _
theorem endThrow_up (fr : Frame) (m : String) (w : World) : UpG w (endThrow fr m w) := Nat.le_refl _
theorem endPrinting_up (p : Program) (fr : Frame) (v : Value) (w : World) : UpG w (endPrinting p fr v w) := by
  unfold endPrinting
  dsimp only
  split
  · exact endThrow_up ..
  · exact trivial
theorem endFatal_up (p : Program) (fr : Frame) (cs : List Frame) (d : Option Dying) (m : String) (w : World) : UpG w (endFatal p fr cs d m w) := by
  unfold endFatal
  dsimp only
  split
  · rename_i h
    exact (dieOf_up ..).le (run_ok h)
  · exact trivial
  · exact trivial
theorem writeOn_up (p : Program) (fr : Frame) (d : Dying) (f : Fatal) (w : World) : UpG w (writeOn p fr d f w) := by
  unfold writeOn
  dsimp only
  split
  · exact trivial
  · split
    · rename_i h
      exact runT_ok2 (w := w) h
    · rename_i h
      exact runT_halt2 (w := w) h
    · exact trivial
    · exact trivial
theorem die_up (p : Program) (fr : Frame) (d : Dying) (w : World) : UpG w (die p fr d w) := by
  unfold die
  dsimp only
  split
  · exact writeOn_up ..
  · split
    · split
      · exact Nat.le_refl _
      · exact endWith_up ..
    · split
      · exact Nat.le_refl _
      · split
        · rename_i h
          exact run_ok (w := w) h
        · exact trivial
      · refine UpG.after ?_ _
        split
        · rename_i h
          exact runT_ok (w := w) h
        · rename_i h
          exact runT_ok (w := w) h
        · exact trivial
        · rename_i h
          exact (endPrinting_up ..).le (runT_halt (w := w) h)
        · exact trivial
      · exact trivial
theorem doReturn_up (p : Program) (main : Bool) (fr : Frame) (cs : List Frame) (d : Option Dying) (v : Value) (w : World) : UpG w (doReturn p main fr cs d v w) := by
  unfold doReturn
  repeat' split
  all_goals first | exact trivial | exact Nat.le_refl _
theorem callDeferred_up (p : Program) (fr : Frame) (cs : List Frame) (dy : Option Dying) (d : Deferred) (w : World) : UpG w (callDeferred p fr cs dy d w) := by
  unfold callDeferred
  refine up_ite ?_ ?_
  · exact trivial
  · have hu := runT_up p (invoke d.target d.args) w #[]
    generalize (invoke d.target d.args).runT p w #[] = r at hu ⊢
    obtain ⟨r, es⟩ := r
    refine UpG.after ?_ _
    revert hu
    change UpR w r → _
    intro hu
    repeat' split
    all_goals first | exact trivial | exact hu | exact (endFatal_up ..).le hu | exact (endThrow_up ..).le hu
theorem unwind_up (p : Program) (main : Bool) (fr : Frame) (cs : List Frame) (dy : Option Dying) (w : World) : UpG w (unwind p main fr cs dy w) := by
  unfold unwind
  split
  · dsimp only
    refine UpG.after ?_ _
    split
    · rename_i h
      exact runT_ok (w := w) h
    · exact trivial
  · exact callDeferred_up ..
  · split
    · exact trivial
    · split
      · exact trivial
      · split
        · exact Nat.le_refl _
        · split
          · split
            · exact Nat.le_refl _
            · split
              · rename_i h
                exact run_ok (w := w) h
              · exact trivial
              · exact trivial
          · split
            · exact endPrinting_up ..
            · exact trivial
    · split
      · exact doReturn_up ..
      · dsimp only
        refine UpG.after ?_ _
        split
        · rename_i h
          exact (doReturn_up ..).le (runT_ok (w := w) h)
        · exact trivial
        · exact trivial
theorem early_up (p : Program) (fr : Frame) (cs : List Frame) (dy : Option Dying) (g : Nat) (w : World) : UpG w (early p fr cs dy g w) := by
  unfold early
  dsimp only
  repeat' split
  all_goals first
    | exact trivial
    | exact Nat.le_refl _
    | (have hk := run_ok (p := p) (w := w) (s := choose (.early g)) (by assumption); exact hk)
theorem apply_up (p : Program) (listen : Bool) (fr : Frame) (cs : List Frame) (dy : Option Dying) (s : Sem Next) (w : World) : UpG w (stepG.apply p listen fr cs dy s w) := by
  unfold stepG.apply
  have hu : UpR w (if listen then s.runT p w #[] else (s.run p w, #[])).1 := by
    split
    · exact runT_up ..
    · exact run_up ..
  generalize (if listen then s.runT p w #[] else (s.run p w, #[])) = r at hu ⊢
  obtain ⟨r, es⟩ := r
  refine UpG.after ?_ _
  revert hu
  change UpR w r → _
  intro hu
  repeat' split
  all_goals first | exact trivial | exact hu | exact (endFatal_up ..).le hu | exact (endThrow_up ..).le hu | exact (early_up ..).le hu
theorem oper_up (p : Program) (listen : Bool) (fr : Frame) (cs : List Frame) (dy : Option Dying) (w : World) : UpG w (stepG.oper p listen fr cs dy w) := by
  unfold stepG.oper
  split
  · exact trivial
  · split <;> exact apply_up ..
theorem up_elim {α : Type} {w : World} {o : Option α} {x : GStep} {f : α → GStep} (hx : UpG w x) (hf : ∀ a, UpG w (f a)) : UpG w (o.elim x f) := by
  cases o with
  | none => exact hx
  | some a => exact hf a
theorem exec_up (p : Program) (main listen : Bool) (fr : Frame) (cs : List Frame) (dy : Option Dying) (w : World) : UpG w (stepG.exec p main listen fr cs dy w) := by
  unfold stepG.exec
  dsimp only
  split
  all_goals (try refine up_elim ?_ (fun _ => ?_))
  all_goals (repeat' split)
  all_goals first
    | exact trivial
    | exact Nat.le_refl _
    | exact apply_up ..
    | exact oper_up ..
    | (refine UpG.after ?_ _; rename_i h; exact (doReturn_up ..).le (runT_ok (w := w) h))
    | (refine UpG.after ?_ _; rename_i h; exact (apply_up ..).le (runT_ok (w := w) h))
    | (refine UpG.after ?_ _; rename_i h; exact runT_ok (w := w) h)
    | (refine UpG.after ?_ _; rename_i h; exact runT_halt (w := w) h)
    | (rename_i h; exact run_ok (w := w) h)
    | exact UpG.after trivial _
theorem stepG_up (p : Program) (main : Bool) (g : Goroutine) (w : World) (listen : Bool) : UpG w (stepG p main g w listen) := by
  unfold stepG
  dsimp only
  split
  · exact die_up ..
  · exact exec_up ..
  · exact unwind_up ..
def UpS (w : World) : Stepped → Prop
  | .next m => w.drawn ≤ m.world.drawn
  | .ended _ _ => True
def UpM (w : World) : Move → Prop
  | .goroutine m _ => w.drawn ≤ m.world.drawn
  | .machine s _ => UpS w s
theorem UpS.le {a b : World} {s : Stepped} (h : UpS b s) (e : a.drawn ≤ b.drawn) : UpS a s := by
  cases s <;> first | exact trivial | exact Nat.le_trans e h
theorem UpM.le {a b : World} {s : Move} (h : UpM b s) (e : a.drawn ≤ b.drawn) : UpM a s := by
  cases s with
  | goroutine m i => exact Nat.le_trans e h
  | machine s ops => exact UpS.le h e
theorem waitingAt_up {rest : Rest} {cases : Array CommCase} {w w' : World} (h : waitingAt rest cases w = some w') : w'.drawn = w.drawn := by
  unfold waitingAt at h
  repeat' split at h
  all_goals first | (injection h with h; subst h; rfl) | exact nomatch h
theorem communicate_up (p : Program) (rest : Rest) (gs : Array Goroutine) (i : Nat) (g : Goroutine) (cases : Array CommCase) (blocking : Bool) (shape : CommShape) (w : World) : UpS w (communicate p rest gs i g cases blocking shape w).1 := by
  unfold communicate
  dsimp only
  split
  · exact trivial
  · split
    · split
      · split
        · rename_i h
          exact Nat.le_of_eq (waitingAt_up h).symm
        · exact trivial
      · exact Nat.le_refl _
    · split
      · exact trivial
      · rename_i h
        have hk := run_ok (w := w) h
        clear h
        split
        · split
          · rename_i h
            exact Nat.le_trans hk (run_halt h)
          · exact trivial
        · exact hk
        · exact hk
        · split
          · exact hk
          · split
            · rename_i h
              have h2 := run_ok (p := p) h
              exact Nat.le_trans hk h2
            · exact trivial
        · exact hk
        · exact hk
        · exact trivial
theorem drain_up (w : World) (c : Nat) : (drain w c).2.drawn = w.drawn := by
  unfold drain
  split <;> rfl
theorem retime_up (m : Machine) (k : Nat) (t : Timer) (when_ period : Nat) : (retime m k t when_ period).2.world.drawn = m.world.drawn := by
  unfold retime
  dsimp only
  split
  · exact drain_up ..
  · rfl
theorem timerOp_up {m m' : Machine} {op : TimerOp} {v : Value} (h : timerOp m op = .ok (v, m')) : m'.world.drawn = m.world.drawn := by
  unfold timerOp at h
  split at h
  · repeat' split at h
    all_goals first | (injection h with h; injection h with _ h; subst h; rfl) | exact nomatch h
  · unfold timerOp.named at h
    split at h
    · injection h with h
      have := congrArg (fun x => x.2.world.drawn) h
      dsimp only at this
      rw [retime_up] at this
      exact this.symm
    · exact nomatch h
  · split at h
    · rename_i m1 ho
      have e : m1.world.drawn = m.world.drawn := by
        unfold timerOp.opened at ho
        repeat' split at ho
        all_goals first | (injection ho with ho; subst ho; rfl) | exact nomatch ho
      unfold timerOp.named at h
      split at h
      · injection h with h
        have := congrArg (fun x => x.2.world.drawn) h
        dsimp only at this
        rw [retime_up] at this
        rw [← this, e]
      · exact nomatch h
    · exact nomatch h
  · injection h with h
    injection h with _ h
    subst h
    rfl
theorem look_up (p : Program) (gs : Array Goroutine) (rest : Rest) (w : World) : UpS w (look p gs rest w) := by
  unfold look
  split
  · dsimp only
    split
    · exact trivial
    · split
      · exact trivial
      · split
        · rename_i h
          have h2 := run_ok h
          exact h2
        · exact trivial
        · exact trivial
  · exact trivial
theorem serve_up (p : Program) (m : Machine) (k : Nat) : UpS m.world (serve p m k) := by
  unfold serve
  split
  · exact trivial
  · exact Nat.le_refl _
  · dsimp only
    split
    · exact trivial
    · exact Nat.le_refl _
theorem runT_step_up (p : Program) (m : Machine) (i : Nat) (listen : Bool) : UpS m.world (runT p m i listen).1 := by
  unfold runT
  generalize m.gs.swapAt! i { (default : Goroutine) with status := .finished } = gg
  obtain ⟨g, gs⟩ := gg
  dsimp only
  have hu := stepG_up p (i == 0) g m.world listen
  generalize stepG p (i == 0) g m.world listen = s at hu ⊢
  cases s with
  | ended o w es => exact trivial
  | comm g cases_ blocking shape w es =>
    have hc := communicate_up p m.rest gs i g cases_ blocking shape w
    exact hc.le hu
  | go g w es => exact hu
  | spawn g child w es => exact hu
  | count g w es =>
    dsimp only
    split
    · exact trivial
    · exact hu
  | alone g on w es => exact hu
  | collect g w es => exact (look_up ..).le hu
  | watch g w es => exact hu
  | newcoro g c d w es => exact hu
  | coroswitch g c exit w es =>
    dsimp only
    split
    · exact hu
    · split
      · rename_i h
        have he := endThrow_up g.frame "coroswitch on exited coro" w
        rw [h] at he
        exact Nat.le_trans hu he
      · exact trivial
    · exact trivial
  | timer g op w es =>
    dsimp only
    split
    · rename_i h
      have := timerOp_up h
      exact Nat.le_trans hu (Nat.le_of_eq this.symm)
    · split
      · rename_i msg _ _ _ _ _ h
        have he := endThrow_up g.frame msg w
        rw [h] at he
        exact Nat.le_trans hu he
      · exact trivial
    · exact trivial
    · exact trivial
theorem askOn_up (p : Program) (m : Machine) : UpM m.world (askOn p m) := by
  have pick : ∀ m' : Machine, m.world.drawn ≤ m'.world.drawn → ∀ rs : List Nat, UpM m.world (match (choose (.sched rs.length)).run p m'.world with
      | .halt _ w => .machine (.ended (.stuck "sched" "") w)
      | .ok k world =>
        if rs.length ≤ 1 then .goroutine { m' with world } (rs.getD k 0) else
        match (choose (.extern "sched.slice" 65536)).run p world with
        | .halt _ w => .machine (.ended (.stuck "sched.slice" "") w)
        | .ok n world => .goroutine { m' with world, rest := { m'.rest with slice := if n = 0 then none else some (rs.getD k 0, n) } } (rs.getD k 0)) := by
    intro m' h rs
    split
    · exact trivial
    · rename_i h1
      have h2 := Nat.le_trans h (run_ok h1)
      split
      · exact h2
      · split
        · exact trivial
        · rename_i h3
          have h4 := run_ok h3
          exact Nat.le_trans h2 h4
  unfold askOn
  dsimp only
  split
  · exact trivial
  · rename_i h1
    have h2 := run_ok h1
    split
    · exact (serve_up ..).le h2
    · split
      · split
        · exact h2
        · split
          · exact h2
          · split
            · exact trivial
            · exact trivial
      · split
        · exact pick { m with world := _ } h2 _
        · split
          · exact trivial
          · rename_i h3
            have h4 := run_ok h3
            exact pick { m with world := _ } (Nat.le_trans h2 h4) _
          · rename_i h3
            have h4 := run_ok h3
            exact Nat.le_trans h2 h4
          · rename_i h3
            have h4 := run_ok h3
            exact pick (Machine.advanceTo { m with world := _ } _) (Nat.le_trans h2 h4) _
theorem ask_up' (p : Program) (m : Machine) : UpM m.world (ask p m) := by
  unfold ask
  split
  · split
    · exact trivial
    · rename_i h1
      have h2 := run_ok h1
      have hl := look_up p m.gs m.rest ‹World›
      split
      · rename_i h3
        rw [h3] at hl
        exact (askOn_up ..).le (Nat.le_trans h2 hl)
      · exact hl.le h2
    · rename_i h1
      have h2 := run_ok h1
      exact (askOn_up ..).le h2
  · exact askOn_up ..
theorem move_up (p : Program) (m : Machine) : UpM m.world (move p m) := by
  unfold move
  split
  · split
    · exact Nat.le_refl _
    · exact trivial
  · split
    · split
      · exact Nat.le_refl _
      · exact ask_up' p { m with rest := { m.rest with slice := none } }
    · exact ask_up' ..
theorem step_up (p : Program) (m : Machine) : UpS m.world (step p m) := by
  unfold step stepT
  have h := move_up p m
  generalize move p m = mv at h ⊢
  cases mv with
  | goroutine m' i => exact (runT_step_up ..).le h
  | machine s ops => exact h
/-- NO STEP OF THE MACHINE LOWERS THE NUMBER OF ANSWERS DRAWN. -/
theorem step_drawn {p : Program} {m m' : Machine} (h : step p m = .next m') : m.world.drawn ≤ m'.world.drawn := by
  have hu := step_up p m
  rw [h] at hu
  exact hu
theorem runN_drawn {p : Program} (n : Nat) : ∀ {m m' : Machine}, runN p n m = .next m' → m.world.drawn ≤ m'.world.drawn := by
  induction n with
  | zero =>
    intro m m' h
    injection h with h
    subst h
    exact Nat.le_refl _
  | succ n ih =>
    intro m m' h
    simp only [runN] at h
    split at h
    · rename_i h1
      exact Nat.le_trans (step_drawn h1) (ih h)
    · rename_i e he
      exact absurd h (he _)
theorem steps_drawn {p : Program} {m m' : Machine} (h : Steps p m m') : m.world.drawn ≤ m'.world.drawn := by
  obtain ⟨n, hn⟩ := h
  exact runN_drawn n hn
end Drawn

/-- A contract tells of `drawn` too: it does not fall. -/
theorem calls_drawn {P : Program} {f : FuncId} {args : Array Value} {w : World} {R : Ending → World → Prop} (h : Calls P f args w R) :
    Calls P f args w fun e w' => R e w' ∧ (e ≠ .outgrown → w.drawn ≤ w'.drawn) := by
  intro cs
  obtain ⟨e, w', fr, hR, hC, hf, hl⟩ := h cs
  refine ⟨e, w', fr, ⟨hR, fun he => ?_⟩, hC, hf, hl⟩
  cases e with
  | returned v => exact Drawn.steps_drawn (m := lone (Frame.enter P f args .normal) cs w) (m' := lone fr cs w') hC
  | panicked c => exact Drawn.steps_drawn (m := lone (Frame.enter P f args .normal) cs w) (m' := lone fr cs w') hC
  | outgrown => exact absurd rfl he
end Go.Proofs.YthlhekkcjficdaaGreat


/- A world that Below and drawn tell of is the old one, grown: what the kit's laws of sorting ask of a comparison. -/
namespace Go.Proofs.YthlhekkcjficdaaGreat
open Go Go.RowKit Go.Sort

theorem below_grow {W w' : World} (h : Below W.heap.size W w') (hd : W.drawn ≤ w'.drawn) : ∃ q os', w' = grow (W.drewN q) os' := by
  refine ⟨w'.drawn - W.drawn, w'.heap.extract W.heap.size w'.heap.size, ?_⟩
  obtain ⟨heap, tape, drawn, os, output⟩ := w'
  obtain ⟨h1, h2, h3, h4, h5⟩ := h
  dsimp only at h1 h2 h3 h4 h5 hd ⊢
  have e1 : heap = W.heap ++ heap.extract W.heap.size heap.size := by
    apply Array.ext_getElem?
    intro i
    by_cases hi : i < W.heap.size
    · rw [Array.getElem?_append_left hi, h5 i hi]
    · rw [Array.getElem?_append_right (by omega), Array.getElem?_extract]
      by_cases hj : i < heap.size
      · rw [if_pos (by omega), show W.heap.size + (i - W.heap.size) = i by omega]
      · rw [if_neg (by omega), Array.getElem?_eq_none (by omega)]
  have e2 : drawn = W.drawn + (drawn - W.drawn) := by omega
  show ({ heap := heap, tape := tape, drawn := drawn, os := os, output := output } : World) = { heap := W.heap ++ heap.extract W.heap.size heap.size, tape := W.tape, drawn := W.drawn + (drawn - W.drawn), os := W.os, output := W.output }
  rw [← e1, ← e2, h1, h2, h3]
/-- A contract that says what is answered and that nothing old turned tells the world exactly. -/
theorem calls_grown {P : Program} {f : FuncId} {args : Array Value} {W : World} {v : Value} (h : Calls P f args W fun e w' => e = .returned v ∧ Below W.heap.size W w') :
    Calls P f args W fun e w' => e = .returned v ∧ ∃ q os', w' = grow (W.drewN q) os' :=
  (calls_drawn h).mono fun _ _ ⟨⟨he, hb⟩, hd⟩ => ⟨he, below_grow hb (hd (by rw [he]; exact nofun))⟩
end Go.Proofs.YthlhekkcjficdaaGreat


/- What orders a number's factors: the comparison of gprime.Factor. -/
namespace Go.Proofs.YthlhekkcjficdaaGreat
open Go Go.RowKit Dig
set_option linter.unusedVariables false
section
variable {w : World} {x y u v : Int} {l m k n : Nat}
set_option maxHeartbeats 4000000 in
set_option maxRecDepth 20000 in
theorem facCmp {n1 n2 n3 n4 : Bool} {o1 o2 o3 o4 : Option Addr} {k1 c1 k2 c2 k3 c3 k4 c4 : Nat} {N M : Int} (ha1 : ZN w (.agg #[.bool n1, .slice o1 k1 c1]) x l) (ha2 : ZN w (.agg #[.bool n2, .slice o2 k2 c2]) y m)
    (hc1 : ZN w (.agg #[.bool n3, .slice o3 k3 c3]) u k) (hc2 : ZN w (.agg #[.bool n4, .slice o4 k4 c4]) v n) (hl : l ≤ 40000000) (hm : m ≤ 40000000) (hk : k ≤ 40000000) (hn : n ≤ 40000000) :
    Calls Tryz.prog 16 #[.agg #[.bool n1, .slice o1 k1 c1, .bool n2, .slice o2 k2 c2, .int .i64 N], .agg #[.bool n3, .slice o3 k3 c3, .bool n4, .slice o4 k4 c4, .int .i64 M]] w fun e w' => e = .returned (.int .i64 (gcmp x y u v)) ∧ Below w.heap.size w w' := by
  obtain ⟨R, hR⟩ : ∃ R, gcmp x y u v = R := ⟨_, rfl⟩
  have HR := hide hR
  rw [hR]
  clear hR
  go_enter Tryz.func16, Tryz.ntmps16
  have hs := St.nil w
  refine wp_seq_k ?_
  intro K1 hK1
  refine rg [0, 1, 2] ?_
  refine sq ?_
  refine .al hs ?_; clear hs; intro p_b1 w_1 hs n1 kb_b1
  refine sq ?_
  refine .al hs ?_; clear hs; intro p_b2 w_2 hs n2 kb_b2
  refine sq ?_
  refine .mv ?_
  apply wpSq_end
  refine hK1 _ _ ?_
  refine wp_seq_k ?_
  intro K2 hK2
  refine rg [0, 1, 2, 3, 4, 5] ?_
  refine sq ?_
  refine .r0 ?_
  refine sq ?_
  refine .r4 ⟨hs.g1.cell 0 rfl, hs.g1.cell 1 rfl, hs.g1.cell 2 rfl, hs.g1.cell 3 rfl⟩ ?_
  refine sq ?_
  refine .r0 ?_
  refine sq ?_
  refine .r4 ⟨hs.g0.cell 0 rfl, hs.g0.cell 1 rfl, hs.g0.cell 2 rfl, hs.g0.cell 3 rfl⟩ ?_
  refine sq ?_
  intro K hK
  have k0_2 := (kb n1).b n2
  replace ha1 := ha1.k k0_2
  replace ha2 := ha2.k k0_2
  replace hc1 := hc1.k k0_2
  replace hc2 := hc2.k k0_2
  go_big_op
  go_fit (gCmp_any (.mk' ha1 ha2) (.mk' hc1 hc2) hl hm hk hn)
  rintro e w_3 ⟨rfl, hb_3⟩
  replace hs := hs.bl hb_3
  rw [HR.out]
  refine hK _ _ rfl trivial ?_
  clear hK K
  refine sq ?_
  refine .mv ?_
  apply wpSq_end
  refine hK2 _ _ ?_
  refine wp_ret ?_
  try dsimp only [Exit.then, Exit.inBlock]
  refine bodyPost_ret (v := (.int .i64 R)) (by simp [results, Tryz.results16, go_sem]) rfl ?_
  have hb := hs.b
  exact ⟨rfl, hb⟩
end
end Go.Proofs.YthlhekkcjficdaaGreat


/- Factors, as a sort sees them: a strict weak order; a comparison that lays blocks. -/
namespace Go.Proofs.YthlhekkcjficdaaGreat
open Go Go.RowKit Dig
set_option linter.unusedVariables false

theorem gcmp_lt (x y u v : Int) : gcmp x y u v < 0 ↔ gN x y < gN u v ∨ (gN x y = gN u v ∧ (x < u ∨ (x = u ∧ y < v))) := by
  unfold gcmp or3 zcmp
  generalize gN x y = a
  generalize gN u v = b
  (repeat' split) <;> omega
/-- A factor as it lies in memory: a Gaussian integer and how often. -/
structure Pw where
  (x y n : Int)
  (n1 : Bool) (o1 : Option Addr) (k1 c1 : Nat) (n2 : Bool) (o2 : Option Addr) (k2 c2 : Nat)
def Pw.cells (p : Pw) : List Value := [.bool p.n1, .slice p.o1 p.k1 p.c1, .bool p.n2, .slice p.o2 p.k2 p.c2, .int .i64 p.n]
def Pw.ok (w : World) (p : Pw) : Prop := PN w (.agg #[.bool p.n1, .slice p.o1 p.k1 p.c1, .bool p.n2, .slice p.o2 p.k2 p.c2]) p.x 40000000 p.y 40000000
/-- Those that w can read. -/
abbrev Pws (w : World) : Type := { p : Pw // p.ok w }
instance (w : World) : Inhabited (Pws w) := ⟨⟨⟨0, 0, 0, false, none, 0, 0, false, none, 0, 0⟩, .mk' ((zc_zero w).zn (Nat.le_trans zlen_0 (by omega))) ((zc_zero w).zn (Nat.le_trans zlen_0 (by omega)))⟩⟩
def Pws.enc {w : World} (p : Pws w) : List Value := p.1.cells
def Pws.cf {w : World} (p q : Pws w) : Int := gcmp p.1.x p.1.y q.1.x q.1.y
theorem Pws.len {w : World} (p : Pws w) : p.enc.length = 5 := rfl
theorem Pws.one {w : World} (p : Pws w) : ∀ v ∈ p.enc, v.oneCell' = true := by
  intro v hv
  simp only [Pws.enc, Pw.cells, List.mem_cons, List.not_mem_nil, or_false] at hv
  rcases hv with rfl | rfl | rfl | rfl | rfl <;> rfl
theorem Pws.swo (w : World) : Sort.SWO (ltOf (Pws.cf (w := w))) := by
  refine ⟨fun p => ?_, fun p q r => ?_, fun p q r => ?_⟩ <;> simp only [ltOf, Pws.cf, decide_eq_true_eq, decide_eq_false_iff_not, gcmp_lt]
  · omega
  · generalize gN p.1.x p.1.y = a
    generalize gN q.1.x q.1.y = b
    generalize gN r.1.x r.1.y = c
    omega
  · generalize gN p.1.x p.1.y = a
    generalize gN q.1.x q.1.y = b
    generalize gN r.1.x r.1.y = c
    omega
/-- A sort's world keeps all numbers. -/
theorem kp_sort {α : Type} [Inhabited α] {enc : α → List Value} {k : Nat} {w : World} {blk off m : Nat} {d : Array α} {os : Array Obj} (hn : NoD w blk) : Kp w (sortWorldK enc k w blk off m d os) := by
  have h1 : Only blk w (Sort.putRowK enc k (Sort.ahead w m) blk off d) := by
    refine ⟨rfl, rfl, rfl, ?_, fun i hi => ?_⟩
    · show (w.heap.modify _ _).size = _
      simp
    · show (w.heap.modify _ _)[i]? = _
      rw [Array.getElem?_modify, if_neg (by omega)]
  refine (ko hn h1).b (w2 := sortWorldK enc k w blk off m d os) ⟨rfl, rfl, rfl, ?_, fun i hi => ?_⟩
  · show _ ≤ (_ ++ _ : Array Obj).size
    simp
  · show (_ ++ _ : Array Obj)[i]? = _
    rw [Array.getElem?_append_left hi]
theorem fac_lays {w : World} {blk off size : Nat} (hn : NoD w blk) : CmpLays Tryz.prog 16 #[] (Pws.enc (w := w)) 5 Pws.cf blk off size w := by
  intro m os dk hd p q
  have hp := p.2.k (kp_sort (enc := Pws.enc (w := w)) (k := 5) (off := off) (m := m) (d := dk) (os := os) hn)
  have hq := q.2.k (kp_sort (enc := Pws.enc (w := w)) (k := 5) (off := off) (m := m) (d := dk) (os := os) hn)
  obtain ⟨_, _, _, _, _, _, _, _, e, h1, h2⟩ := hp
  obtain ⟨_, _, _, _, _, _, _, _, e', h3, h4⟩ := hq
  simp only [Value.agg.injEq, Array.mk.injEq, List.cons.injEq, Value.bool.injEq, Value.slice.injEq, and_true] at e e'
  obtain ⟨rfl, ⟨rfl, rfl, rfl⟩, rfl, rfl, rfl, rfl⟩ := e
  obtain ⟨rfl, ⟨rfl, rfl, rfl⟩, rfl, rfl, rfl, rfl⟩ := e'
  exact calls_grown (facCmp h1 h2 h3 h4 (Nat.le_refl _) (Nat.le_refl _) (Nat.le_refl _) (Nat.le_refl _))
end Go.Proofs.YthlhekkcjficdaaGreat


/- Least divisors of whole numbers, and which squares of them are sums of two squares. -/
namespace Go.Proofs.YthlhekkcjficdaaGreat
open Go Go.RowKit Dig
def IsLf (n r : Nat) : Prop := r ∣ n ∧ 2 ≤ r ∧ ∀ d, 2 ≤ d → d ∣ n → r ≤ d
theorem IsLf.uniq {n r s : Nat} (h : IsLf n r) (k : IsLf n s) : r = s := Nat.le_antisymm (h.2.2 s k.2.1 k.1) (k.2.2 r h.2.1 h.1)
theorem IsLf.self {n r : Nat} (h : IsLf n r) : IsLf r r := ⟨Nat.dvd_refl r, h.2.1, fun d h2 hd => h.2.2 d h2 (Nat.dvd_trans hd h.1)⟩
theorem lf_div {n d : Nat} (h : 2 ≤ d) (hd : d ∣ n) (hl : ∀ e, 2 ≤ e → e < d → ¬ e ∣ n) : IsLf n d :=
  ⟨hd, h, fun e h2 he => Nat.le_of_not_lt fun hc => hl e h2 hc he⟩
theorem lf_none {n d : Nat} (h2 : 2 ≤ n) (hn : n < d * d) (hl : ∀ e, 2 ≤ e → e < d → ¬ e ∣ n) : IsLf n n := by
  refine ⟨Nat.dvd_refl n, h2, fun e he hd => Nat.le_of_not_lt fun hc => ?_⟩
  obtain ⟨f, hf⟩ := hd
  have hde : d ≤ e := Nat.le_of_not_lt fun hc => hl e he hc ⟨f, hf⟩
  have hf2 : 2 ≤ f := by
    rcases Nat.lt_or_ge f 2 with h | h
    · have : f = 0 ∨ f = 1 := by omega
      rcases this with rfl | rfl <;> simp at hf <;> omega
    · exact h
  have hdf : d ≤ f := Nat.le_of_not_lt fun hc => hl f hf2 hc ⟨e, by rw [hf, Nat.mul_comm]⟩
  have := Nat.mul_le_mul hde hdf
  omega
theorem IsLf.euclid {p a b : Nat} (h : IsLf p p) (hd : p ∣ a * b) : p ∣ a ∨ p ∣ b := by
  by_cases h1 : Nat.gcd p a = 1
  · exact .inr (Nat.Coprime.dvd_of_dvd_mul_left h1 hd)
  · have h0 : Nat.gcd p a ≠ 0 := fun hc => by have := Nat.eq_zero_of_gcd_eq_zero_left hc; have := h.2.1; omega
    have := h.2.2 _ (by omega) (Nat.gcd_dvd_left p a)
    have h2 := Nat.le_of_dvd (by have := h.2.1; omega) (Nat.gcd_dvd_left p a)
    have : Nat.gcd p a = p := by omega
    exact .inl (this ▸ Nat.gcd_dvd_right p a)
theorem sq_mod4 (x : Nat) : x * x % 4 = 0 ∧ x % 2 = 0 ∨ x * x % 4 = 1 ∧ x % 2 = 1 := by
  have : x % 4 = 0 ∨ x % 4 = 1 ∨ x % 4 = 2 ∨ x % 4 = 3 := by omega
  rw [Nat.mul_mod]
  rcases this with h | h | h | h <;> rw [h] <;> simp <;> omega
end Go.Proofs.YthlhekkcjficdaaGreat


/- gprime.leastDivisor and the reference's Least. -/
namespace Go.Proofs.YthlhekkcjficdaaGreat
open Go Go.RowKit Dig
set_option linter.unusedVariables false

theorem lf_bd {n k : Nat} (h : k * k ≤ n) (hn : n < 4294967296) : k ≤ 65535 := by
  rcases Nat.lt_or_ge k 65536 with h1 | h1
  · omega
  · have := Nat.mul_le_mul h1 h1
    omega
set_option maxHeartbeats 1000000 in
set_option maxRecDepth 20000 in
theorem least_u64 (n : Nat) (w : World) (h2 : 2 ≤ n) (hn : n < 4294967296) :
    Calls Tryz.prog 34 #[.int .u64 (n : Int)] w fun e w' => ∃ r : Nat, e = .returned (.int .u64 (r : Int)) ∧ IsLf n r ∧ w = w' := by
  go_enter Tryz.func34, Tryz.ntmps34
  go_wp2
  go_loopw [3] (fun d wr => ∃ k : Nat, d = .int .u64 (k : Int) ∧ 2 ≤ k ∧ k ≤ 65536 ∧ Hid (∀ e, 2 ≤ e → e < k → ¬ e ∣ n) ∧ w = wr) (fun d _ => 65537 - (intOf d).toNat)
  case atStart => exact ⟨2, rfl, by omega, by omega, hide (fun e h1 h2 => by omega), rfl⟩
  case round =>
    obtain ⟨k, rfl, hk2, hkb, hI, rfl⟩ := hrel
    have hp : (k : Int) * (k : Int) = ((k * k : Nat) : Int) := by simp
    have hpb : k * k < 18446744073709 := Nat.lt_of_le_of_lt (Nat.mul_le_mul hkb hkb) (by decide)
    by_cases hkk : k * k ≤ n
    · have hkl := lf_bd hkk hn
      by_cases hd : n % k = 0
      · have hL := hide (lf_div hk2 (Nat.dvd_of_mod_eq_zero hd) hI.out)
        have hm : Int.tmod (n : Int) (k : Int) = 0 := by rw [← Int.ofNat_tmod, hd]; rfl
        have hk0 : ((k : Int) == 0) = false := by simp; omega
        clear hd hI
        generalize k * k = q at *
        have h5 : ((q : Int) ≤ (n : Int)) = True := by simp; omega
        clear hkk
        go_wp2
        go_ret
        exact ⟨k, rfl, hL.out, rfl⟩
      · have hm : Int.tmod (n : Int) (k : Int) = ((n % k : Nat) : Int) := by rw [Int.ofNat_tmod]
        have hk0 : ((k : Int) == 0) = false := by simp; omega
        have hI' : Hid (∀ e, 2 ≤ e → e < k + 1 → ¬ e ∣ n) := hide (fun e h1 h2 hc => by
          rcases Nat.lt_or_ge e k with h | h
          · exact hI.out e h1 h hc
          · obtain rfl : e = k := by omega
            exact hd (Nat.mod_eq_zero_of_dvd hc))
        clear hI
        generalize n % k = r at *
        have hr0 : ((r : Int) == 0) = false := by simp; omega
        generalize k * k = q at *
        have h5 : ((q : Int) ≤ (n : Int)) = True := by simp; omega
        clear hkk hd
        go_wp2
        go_roundw
        case rel => exact ⟨k + 1, by go_num, by omega, by omega, hI', trivial⟩
        case measure => simp [intOf]; omega
    · have hL := hide (lf_none h2 (Nat.lt_of_not_le hkk) hI.out)
      clear hI
      generalize k * k = q at *
      have h5 : ((q : Int) ≤ (n : Int)) = False := by simp; omega
      clear hkk
      go_wp2
      go_ret
      exact ⟨n, rfl, hL.out, rfl⟩
set_option maxHeartbeats 1000000 in
set_option maxRecDepth 20000 in
theorem least_i64 (n : Nat) (w : World) (h2 : 2 ≤ n) (hn : n < 4294967296) :
    Calls Tryz.prog 24 #[.int .i64 (n : Int)] w fun e w' => ∃ r : Nat, e = .returned (.int .i64 (r : Int)) ∧ IsLf n r ∧ w = w' := by
  go_enter Tryz.func24, Tryz.ntmps24
  go_wp2
  go_loopw [3] (fun d wr => ∃ k : Nat, d = .int .i64 (k : Int) ∧ 2 ≤ k ∧ k ≤ 65536 ∧ Hid (∀ e, 2 ≤ e → e < k → ¬ e ∣ n) ∧ w = wr) (fun d _ => 65537 - (intOf d).toNat)
  case atStart => exact ⟨2, rfl, by omega, by omega, hide (fun e h1 h2 => by omega), rfl⟩
  case round =>
    obtain ⟨k, rfl, hk2, hkb, hI, rfl⟩ := hrel
    have hp : (k : Int) * (k : Int) = ((k * k : Nat) : Int) := by simp
    have hpb : k * k < 18446744073709 := Nat.lt_of_le_of_lt (Nat.mul_le_mul hkb hkb) (by decide)
    by_cases hkk : k * k ≤ n
    · have hkl := lf_bd hkk hn
      by_cases hd : n % k = 0
      · have hL := hide (lf_div hk2 (Nat.dvd_of_mod_eq_zero hd) hI.out)
        have hm : Int.tmod (n : Int) (k : Int) = 0 := by rw [← Int.ofNat_tmod, hd]; rfl
        have hk0 : ((k : Int) == 0) = false := by simp; omega
        clear hd hI
        generalize k * k = q at *
        have h5 : ((q : Int) ≤ (n : Int)) = True := by simp; omega
        clear hkk
        go_wp2
        go_ret
        exact ⟨k, rfl, hL.out, rfl⟩
      · have hm : Int.tmod (n : Int) (k : Int) = ((n % k : Nat) : Int) := by rw [Int.ofNat_tmod]
        have hk0 : ((k : Int) == 0) = false := by simp; omega
        have hI' : Hid (∀ e, 2 ≤ e → e < k + 1 → ¬ e ∣ n) := hide (fun e h1 h2 hc => by
          rcases Nat.lt_or_ge e k with h | h
          · exact hI.out e h1 h hc
          · obtain rfl : e = k := by omega
            exact hd (Nat.mod_eq_zero_of_dvd hc))
        clear hI
        generalize n % k = r at *
        have hr0 : ((r : Int) == 0) = false := by simp; omega
        generalize k * k = q at *
        have h5 : ((q : Int) ≤ (n : Int)) = True := by simp; omega
        clear hkk hd
        go_wp2
        go_roundw
        case rel => exact ⟨k + 1, by go_num, by omega, by omega, hI', trivial⟩
        case measure => simp [intOf]; omega
    · have hL := hide (lf_none h2 (Nat.lt_of_not_le hkk) hI.out)
      clear hI
      generalize k * k = q at *
      have h5 : ((q : Int) ≤ (n : Int)) = False := by simp; omega
      clear hkk
      go_wp2
      go_ret
      exact ⟨n, rfl, hL.out, rfl⟩
end Go.Proofs.YthlhekkcjficdaaGreat

