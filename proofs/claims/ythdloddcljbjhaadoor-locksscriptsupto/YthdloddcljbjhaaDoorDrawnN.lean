/- The machine's count of draws never falls: the machine's steps, and what a call is told of. -/
import Derived.Test.YthdloddcljbjhaaDoorDrawnM
set_option linter.unusedVariables false
set_option linter.unusedSimpArgs false
set_option maxRecDepth 100000
namespace Go.Proofs.YthdloddcljbjhaaDoor.Drawn
open Go

theorem runT1_ok {α : Type} {p : Program} {s : Sem α} {w w' : World} {es : Array Event} {a : α} (h : (s.runT p w es).1 = .ok a w') : w.drawn ≤ w'.drawn := run_ok (p := p) (s := s) (a := a) (by rw [← Sem.runT_fst p s w es, h])
theorem runT1_halt {α : Type} {p : Program} {s : Sem α} {w w' : World} {es : Array Event} {a : Halt} (h : (s.runT p w es).1 = .halt a w') : w.drawn ≤ w'.drawn := run_halt (p := p) (s := s) (a := a) (by rw [← Sem.runT_fst p s w es, h])
theorem gd_elim {α : Type} {w : World} {o : Option α} {a : GStep} {f : α → GStep} (ha : Gd w a) (hf : ∀ x, Gd w (f x)) : Gd w (o.elim a f) := by cases o <;> first | exact ha | exact hf _
theorem oper_gd (p : Program) (listen : Bool) (fr : Frame) (cs : List Frame) (dy : Option Dying) (w : World) : Gd w (stepG.oper p listen fr cs dy w) := by
  unfold stepG.oper
  repeat' first
    | trivial
    | exact apply_gd _ _ _ _ _ _ _
    | split
set_option maxHeartbeats 2000000 in
theorem exec_gd (p : Program) (main listen : Bool) (fr : Frame) (cs : List Frame) (dy : Option Dying) (w : World) : Gd w (stepG.exec p main listen fr cs dy w) := by
  unfold stepG.exec
  simp only []
  repeat' first
    | trivial
    | exact Nat.le_refl _
    | exact apply_gd _ _ _ _ _ _ _
    | exact oper_gd _ _ _ _ _ _
    | (rename_i h; exact run_ok h)
    | (rename_i h; exact runT1_ok h)
    | (rename_i h; exact runT1_halt h)
    | (rename_i h; exact gd_trans (runT1_ok h) (doReturn_gd _ _ _ _ _ _ _))
    | (rename_i h; exact gd_trans (runT1_ok h) (apply_gd _ _ _ _ _ _ _))
    | refine gd_after ?_
    | refine gd_elim ?_ (fun _ => ?_)
    | split
theorem stepG_gd (p : Program) (main : Bool) (g : Goroutine) (w : World) (listen : Bool) : Gd w (stepG p main g w listen) := by
  unfold stepG
  simp only []
  repeat' first
    | exact die_gd _ _ _ _
    | exact exec_gd _ _ _ _ _ _ _
    | exact unwind_gd _ _ _ _ _ _
    | split
theorem waiting_eq {rest : Rest} {cases : Array CommCase} {w w' : World} (h : waitingAt rest cases w = some w') : w'.drawn = w.drawn := by
  unfold waitingAt at h
  repeat' first
    | (simp at h; done)
    | (simp only [Option.some.injEq] at h; subst h; rfl)
    | split at h
set_option maxHeartbeats 2000000 in
theorem communicate_le (p : Program) (rest : Rest) (gs : Array Goroutine) (i : Nat) (g : Goroutine) (cases : Array CommCase) (blocking : Bool)
    (shape : CommShape) (w : World) (m' : Machine) (h : (communicate p rest gs i g cases blocking shape w).1 = .next m') : w.drawn ≤ m'.world.drawn := by
  unfold communicate at h
  simp only [] at h
  repeat' first
    | (simp at h; done)
    | (simp only [Stepped.next.injEq] at h; subst h; exact Nat.le_refl _)
    | (simp only [Stepped.next.injEq] at h; subst h; dsimp only; have e := waiting_eq (by assumption); exact Nat.le_of_eq e.symm)
    | (simp only [Stepped.next.injEq] at h; subst h; dsimp only; exact run_ok (by assumption))
    | (simp only [Stepped.next.injEq] at h; subst h; rename_i h1; dsimp only; exact Nat.le_trans (run_ok (by assumption)) (run_ok h1))
    | (simp only [Stepped.next.injEq] at h; subst h; rename_i h1; dsimp only; exact Nat.le_trans (run_ok (by assumption)) (run_halt h1))
    | split at h
set_option maxHeartbeats 2000000 in
theorem look_le (p : Program) (gs : Array Goroutine) (rest : Rest) (w : World) (m' : Machine)
    (h : look p gs rest w = .next m') : w.drawn ≤ m'.world.drawn := by
  unfold look at h
  simp only [] at h
  repeat' first
    | (simp at h; done)
    | (simp only [Stepped.next.injEq] at h; subst h; dsimp only; exact run_ok (by assumption))
    | split at h
theorem drain_eq (w : World) (c : Nat) : (drain w c).2.drawn = w.drawn := by unfold drain; split <;> rfl
theorem retime_eq (m : Machine) (k : Nat) (t : Timer) (a b : Nat) : (retime m k t a b).2.world.drawn = m.world.drawn := by
  unfold retime
  simp only []
  split
  · exact drain_eq _ _
  · rfl
theorem opened_eq {m m' : Machine} {a : Addr} (h : timerOp.opened m a = some m') : m'.world.drawn = m.world.drawn := by
  unfold timerOp.opened at h
  repeat' first
    | (simp at h; done)
    | (simp only [Option.some.injEq] at h; subst h; rfl)
    | split at h
theorem named_eq {m m2 m' : Machine} {a : Addr} {f : Nat → Timer → Value × Machine} {v : Value} (hf : ∀ k t, (f k t).2.world.drawn = m2.world.drawn) (h : timerOp.named m a f = .ok (v, m')) : m'.world.drawn = m2.world.drawn := by
  unfold timerOp.named at h
  split at h
  · simp only [Except.ok.injEq] at h
    have h2 := congrArg (fun q : Value × Machine => q.2.world.drawn) h
    exact h2.symm.trans (hf _ _)
  · simp at h
theorem timer_eq {m m' : Machine} {op : TimerOp} {v : Value} (h : timerOp m op = .ok (v, m')) : m'.world.drawn = m.world.drawn := by
  unfold timerOp at h
  simp only [] at h
  repeat' first
    | (simp at h; done)
    | (simp only [Except.ok.injEq, Prod.mk.injEq] at h; obtain ⟨_, rfl⟩ := h; rfl)
    | exact named_eq (fun k t => retime_eq _ _ _ _ _) h
    | (rename_i h1; exact (named_eq (fun k t => retime_eq _ _ _ _ _) h).trans (opened_eq h1))
    | split at h
end Go.Proofs.YthdloddcljbjhaaDoor.Drawn
