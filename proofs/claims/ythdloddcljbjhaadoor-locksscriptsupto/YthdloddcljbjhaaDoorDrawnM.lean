/- The machine's count of draws never falls: what a run has drawn is drawn. -/
import GoSem.Step
import Derived.RunT
import Derived.Calls
import Derived.RunNT
set_option linter.unusedVariables false
set_option linter.unusedSimpArgs false
set_option maxRecDepth 100000
namespace Go.Proofs.YthdloddcljbjhaaDoor.Drawn
open Go

theorem ask_le {α : Type} (a : Ask α) : ∀ w : World, w.drawn ≤ (w.ask a).2.drawn := by
  induction a with
  | done a => intro w; exact Nat.le_refl _
  | ask what range k ih =>
    intro w
    unfold World.ask
    simp only []
    split
    · exact ih _ _
    · exact Nat.le_trans (Nat.le_succ _) (ih _ { w with drawn := w.drawn + 1 })
theorem sys_le (w : World) (c : Sys) : w.drawn ≤ (w.sys c).2.drawn := by
  have h := ask_le (Kernel.perform c w.os) w
  unfold World.sys
  split
  · exact Nat.le_refl _
  · rename_i h2; rw [h2] at h; exact h
theorem far_eq {p : Program} {w w' : World} {a : Addr} {v : Value} {b : Bool} {t : List Addr} (h : w.farStore p a v b = .ok (w', t)) : w'.drawn = w.drawn := by
  unfold World.farStore at h
  repeat' first
    | (simp at h; done)
    | split at h
  rename_i h2
  simp only [Except.ok.injEq] at h
  subst h
  unfold World.viewStore at h2
  simp only [bind, Except.bind, pure, Except.pure, throw, throwThe, MonadExceptOf.throw] at h2
  repeat' first
    | (simp at h2; done)
    | (simp only [Except.ok.injEq, Prod.mk.injEq] at h2; obtain ⟨rfl, _⟩ := h2; rfl)
    | split at h2
def out {α : Type} : Result α → World | .ok _ w => w | .halt _ w => w
theorem freeze_eq (w : World) (a : Addr) (n : Nat) : (w.freeze a n).drawn = w.drawn := by unfold World.freeze; split <;> rfl
theorem run_le {α : Type} (p : Program) (s : Sem α) : ∀ w : World, w.drawn ≤ (out (s.run p w)).drawn := by
  induction s with
  | pure a => intro w; exact Nat.le_refl _
  | load m a k ih =>
    intro w; unfold Sem.run
    repeat' split
    · exact ih _ _
    · exact ih _ _
    · exact Nat.le_refl _
  | store m a v k ih =>
    intro w
    have key : ∀ v, w.drawn ≤ (out (k.run p (w.setCell a v))).drawn := fun v => by
      show (w.setCell a v).drawn ≤ _
      exact ih _
    cases v <;> unfold Sem.run
    all_goals
      repeat' split
      all_goals first
        | exact Nat.le_refl _
        | exact ih _
        | exact key _
        | (rename_i h; have e := far_eq h; exact Nat.le_trans (Nat.le_of_eq e.symm) (ih _))
  | new o k ih => intro w; unfold Sem.run; exact ih _ { w with heap := w.heap.push o }
  | shape r k ih => intro w; unfold Sem.run; exact ih _ _
  | freeze a n k ih => intro w; unfold Sem.run; exact freeze_eq w a n ▸ ih _
  | frozen a k ih => intro w; unfold Sem.run; exact ih _ _
  | getObj r k ih =>
    intro w; unfold Sem.run
    repeat' split
    all_goals first
      | exact Nat.le_refl _
      | exact ih _ _
  | setObj r o k ih =>
    intro w; unfold Sem.run
    repeat' split
    all_goals first
      | exact Nat.le_refl _
      | exact ih { w with heap := w.heap.setIfInBounds r o }
  | choose q k ih =>
    intro w; unfold Sem.run
    split
    · exact ih _ _
    · exact Nat.le_trans (Nat.le_succ _) (ih _ { w with drawn := w.drawn + 1 })
  | sys c k ih => intro w; unfold Sem.run; exact Nat.le_trans (sys_le w c) (ih _ _)
  | program k ih => intro w; unfold Sem.run; exact ih _ _
  | mark m k ih => intro w; unfold Sem.run; exact ih _
  | halt h => intro w; exact Nat.le_refl _
section
variable {α : Type} {p : Program} {s : Sem α} {w w' : World} {es es' : Array Event}
theorem run_ok {a : α} (h : s.run p w = .ok a w') : w.drawn ≤ w'.drawn := by have := run_le p s w; rw [h] at this; exact this
theorem run_halt {a : Halt} (h : s.run p w = .halt a w') : w.drawn ≤ w'.drawn := by have := run_le p s w; rw [h] at this; exact this
theorem runT_ok {a : α} (h : s.runT p w es = (.ok a w', es')) : w.drawn ≤ w'.drawn := run_ok (p := p) (s := s) (a := a) (by rw [← Sem.runT_fst p s w es, h])
theorem runT_halt {a : Halt} (h : s.runT p w es = (.halt a w', es')) : w.drawn ≤ w'.drawn := run_halt (p := p) (s := s) (a := a) (by rw [← Sem.runT_fst p s w es, h])
theorem lis_eq {b : Bool} {r : Result α} (h : (if b = true then s.runT p w #[] else (s.run p w, #[])) = (r, es')) : s.run p w = r := by
  cases b with
  | false => rw [if_neg (by decide)] at h; exact (Prod.mk.inj h).1
  | true => rw [if_pos rfl] at h; rw [← Sem.runT_fst p s w #[], h]
end
/-- Where a goroutine's step goes on, nothing is undrawn. -/
def Gd (w : World) : GStep → Prop
  | .go _ w' _ => w.drawn ≤ w'.drawn
  | .comm _ _ _ _ w' _ => w.drawn ≤ w'.drawn
  | .spawn _ _ w' _ => w.drawn ≤ w'.drawn
  | .count _ w' _ => w.drawn ≤ w'.drawn
  | .timer _ _ w' _ => w.drawn ≤ w'.drawn
  | .alone _ _ w' _ => w.drawn ≤ w'.drawn
  | .newcoro _ _ _ w' _ => w.drawn ≤ w'.drawn
  | .coroswitch _ _ _ w' _ => w.drawn ≤ w'.drawn
  | .collect _ w' _ => w.drawn ≤ w'.drawn
  | .watch _ w' _ => w.drawn ≤ w'.drawn
  | .ended _ _ _ => True
theorem gd_after {w : World} {es : Array Event} {s : GStep} (h : Gd w s) : Gd w (GStep.after es s) := by cases s <;> exact h
theorem gd_ite {w : World} {c : Prop} [Decidable c] {a b : GStep} (ha : Gd w a) (hb : Gd w b) : Gd w (if c then a else b) := by split <;> assumption
theorem gd_trans {w w' : World} {s : GStep} (h : w.drawn ≤ w'.drawn) (k : Gd w' s) : Gd w s := by
  cases s <;> first | exact Nat.le_trans h k | trivial
theorem dieOf_gd (fr : Frame) (l : List ByteArray) (m : String) (b : Bool) (w : World) : Gd w (dieOf fr l m b w) := Nat.le_refl _
theorem endThrow_gd (fr : Frame) (m : String) (w : World) : Gd w (endThrow fr m w) := Nat.le_refl _
theorem endWith_gd (w0 w : World) (fd : Nat) (t : ByteArray) (o : Outcome) : Gd w0 (endWith w fd t o) := by
  unfold endWith
  simp only []
  repeat' split
  all_goals trivial
theorem endPrinting_gd (p : Program) (fr : Frame) (v : Value) (w : World) : Gd w (endPrinting p fr v w) := by
  unfold endPrinting
  simp only []
  split
  · exact endThrow_gd _ _ _
  · trivial
theorem endFatal_gd (p : Program) (fr : Frame) (cs : List Frame) (d : Option Dying) (m : String) (w : World) : Gd w (endFatal p fr cs d m w) := by
  unfold endFatal
  simp only []
  split
  · rename_i h; exact gd_trans (run_ok h) (dieOf_gd _ _ _ _ _)
  · trivial
  · trivial
theorem writeOn_gd (p : Program) (fr : Frame) (d : Dying) (f : Fatal) (w : World) : Gd w (writeOn p fr d f w) := by
  unfold writeOn
  simp only []
  split
  · trivial
  · split
    · rename_i h; exact runT_ok h
    · rename_i h; exact runT_halt h
    · trivial
    · trivial
theorem die_gd (p : Program) (fr : Frame) (d : Dying) (w : World) : Gd w (die p fr d w) := by
  unfold die
  simp only []
  split
  · exact writeOn_gd _ _ _ _ _
  · split
    · split
      · exact Nat.le_refl _
      · exact endWith_gd _ _ _ _ _
    · split
      · exact Nat.le_refl _
      · split
        · rename_i h; exact run_ok h
        · trivial
      · refine gd_after ?_
        generalize hr : (invoke _ _).runT p w #[] = r
        obtain ⟨r, es⟩ := r
        simp only []
        split
        · exact runT_ok hr
        · exact runT_ok hr
        · trivial
        · exact gd_trans (runT_halt hr) (endPrinting_gd _ _ _ _)
        · trivial
      · trivial
theorem doReturn_gd (p : Program) (main : Bool) (fr : Frame) (cs : List Frame) (d : Option Dying) (v : Value) (w : World) : Gd w (doReturn p main fr cs d v w) := by
  unfold doReturn
  simp only []
  repeat' split
  all_goals first | exact Nat.le_refl _ | trivial
theorem callDeferred_gd (p : Program) (fr : Frame) (cs : List Frame) (dy : Option Dying) (d : Deferred) (w : World) : Gd w (callDeferred p fr cs dy d w) := by
  unfold callDeferred
  simp only []
  refine gd_ite trivial ?_
  · refine gd_after ?_
    generalize hr : (invoke _ _).runT p w #[] = r
    obtain ⟨r, es⟩ := r
    simp only []
    repeat' split
    all_goals first
      | trivial
      | exact runT_ok hr
      | exact runT_halt hr
      | exact gd_trans (runT_halt hr) (endFatal_gd _ _ _ _ _ _)
      | exact gd_trans (runT_halt hr) (endThrow_gd _ _ _)
theorem unwind_gd (p : Program) (main : Bool) (fr : Frame) (cs : List Frame) (dy : Option Dying) (w : World) : Gd w (unwind p main fr cs dy w) := by
  unfold unwind
  simp only []
  split
  · refine gd_after ?_
    generalize hr : (Instr.takeDeferred _).runT p w #[] = r
    obtain ⟨r, es⟩ := r
    simp only []
    split
    · exact runT_ok hr
    · trivial
  · exact callDeferred_gd _ _ _ _ _ _
  · split
    · trivial
    · repeat' first
        | trivial
        | exact Nat.le_refl _
        | exact endPrinting_gd _ _ _ _
        | (rename_i h; exact run_ok h)
        | split
    · split
      · exact doReturn_gd _ _ _ _ _ _ _
      · refine gd_after ?_
        generalize hr : (results _ _).runT p w #[] = r
        obtain ⟨r, es⟩ := r
        simp only []
        split
        · exact gd_trans (runT_ok hr) (doReturn_gd _ _ _ _ _ _ _)
        · trivial
        · trivial
theorem early_gd (p : Program) (fr : Frame) (cs : List Frame) (dy : Option Dying) (g : Nat) (w : World) : Gd w (early p fr cs dy g w) := by
  have notYet : ∀ w0 w1 : World, w0.drawn ≤ w1.drawn → Gd w0 (match w1.heap[g]? with
    | some (.pending c elem) => .go { frame := fr, callers := cs, status := .running, dying := dy } { w1 with heap := w1.heap.setIfInBounds g (.cells c elem) }
    | _ => .ended (.stuck "early: the variable does not wait" (fr.pos p)) w1) := by
    intro w0 w1 h
    split
    · exact h
    · trivial
  unfold early
  simp only []
  repeat' first
    | trivial
    | exact notYet _ _ (Nat.le_refl _)
    | (rename_i h; exact notYet _ _ (run_ok h))
    | exact Nat.le_refl _
    | (rename_i h; exact run_ok h)
    | split
theorem apply_gd (p : Program) (listen : Bool) (fr : Frame) (cs : List Frame) (dy : Option Dying) (s : Sem Next) (w : World) : Gd w (stepG.apply p listen fr cs dy s w) := by
  unfold stepG.apply
  simp only []
  generalize hr : (if listen = true then s.runT p w #[] else (s.run p w, #[])) = r
  obtain ⟨r, es⟩ := r
  have hr := lis_eq hr
  simp only []
  refine gd_after ?_
  repeat' first
    | trivial
    | exact run_ok hr
    | exact run_halt hr
    | exact gd_trans (run_halt hr) (endFatal_gd _ _ _ _ _ _)
    | exact gd_trans (run_halt hr) (endThrow_gd _ _ _)
    | exact gd_trans (run_ok hr) (endThrow_gd _ _ _)
    | exact gd_trans (run_halt hr) (early_gd _ _ _ _ _ _)
    | split
end Go.Proofs.YthdloddcljbjhaaDoor.Drawn
