/- The machine's count of draws never falls: so a call whose world is 'Below' is one that has grown. -/
import Derived.Test.YthdloddcljbjhaaDoorDrawnN
import Derived.Sort.Grow
import Derived.Deep.Draws
import Derived.Below
set_option linter.unusedVariables false
set_option linter.unusedSimpArgs false
set_option maxRecDepth 100000
namespace Go.Proofs.YthdloddcljbjhaaDoor.Drawn
open Go Go.RowKit

set_option maxHeartbeats 2000000 in
theorem runT_le (p : Program) (m m' : Machine) (i : Nat) (b : Bool) (h : (runT p m i b).1 = .next m') : m.world.drawn ≤ m'.world.drawn := by
  simp only [runT] at h
  generalize m.gs.swapAt! _ _ = gg at h
  have hg := stepG_gd p (i == 0) gg.1 m.world b
  revert h hg
  generalize stepG p (i == 0) gg.1 m.world b = s
  intro h hg
  cases s <;> simp only [] at h
  all_goals simp only [Gd] at hg
  all_goals repeat' first
    | (simp at h; done)
    | exact Nat.le_trans hg (communicate_le _ _ _ _ _ _ _ _ _ _ h)
    | exact Nat.le_trans hg (look_le _ _ _ _ _ h)
    | (simp only [Stepped.next.injEq] at h; subst h; exact hg)
    | (rename_i h1; simp only [endThrow, dieOf, GStep.go.injEq] at h1; simp only [Stepped.next.injEq] at h; obtain ⟨_, rfl, _⟩ := h1; subst h; exact hg)
    | (rename_i h1; simp only [Stepped.next.injEq] at h; subst h; have e := timer_eq h1; exact Nat.le_trans hg (Nat.le_of_eq e.symm))
    | split at h
theorem serve_le (p : Program) (m m' : Machine) (k : Nat) (h : serve p m k = .next m') : m.world.drawn ≤ m'.world.drawn := by
  unfold serve at h
  simp only [] at h
  repeat' first
    | (simp at h; done)
    | (simp only [Stepped.next.injEq] at h; subst h; exact Nat.le_refl _)
    | split at h
local macro "sums" : tactic => `(tactic| (
  try have e1 := run_ok (‹Sem.run _ (_ : Sem Nat) (Machine.world _) = Result.ok _ _›)
  try have e2 := run_ok (‹Sem.run _ (choose (Question.extern "clock.wait" _)) _ = Result.ok _ _›)
  try have e3 := run_ok (‹Sem.run _ (choose (Question.sched _)) _ = Result.ok _ _›)
  try have e4 := run_ok (‹Sem.run _ (choose (Question.extern "sched.slice" _)) _ = Result.ok _ _›)
  try simp only [Machine.advanceTo] at *
  omega))
set_option maxHeartbeats 2000000 in
theorem askOn_goroutine_le (p : Program) (m m' : Machine) (i : Nat) (h : askOn p m = .goroutine m' i) : m.world.drawn ≤ m'.world.drawn := by
  unfold askOn at h
  simp only [] at h
  repeat' first
    | (simp at h; done)
    | (simp only [Move.goroutine.injEq] at h; obtain ⟨hm, hi⟩ := h; subst hm; dsimp only [Machine.advanceTo] at *; sums)
    | split at h
set_option maxHeartbeats 2000000 in
theorem askOn_le (p : Program) (m m' : Machine) (ops : Array MemOp) (h : askOn p m = .machine (.next m') ops) : m.world.drawn ≤ m'.world.drawn := by
  unfold askOn at h
  simp only [] at h
  repeat' first
    | (simp at h; done)
    | (simp only [Move.machine.injEq] at h; have := serve_le _ _ _ _ h.1; dsimp only at this; sums)
    | (simp only [Move.machine.injEq, Stepped.next.injEq] at h; obtain ⟨hm, _⟩ := h; subst hm; dsimp only [Machine.advanceTo] at *; sums)
    | split at h
theorem ask_le2 (p : Program) (m : Machine) : (∃ m₂, m.world.drawn ≤ m₂.world.drawn ∧ ask p m = askOn p m₂) ∨ (∃ o w, ask p m = .machine (.ended o w) #[]) := by
  unfold ask
  by_cases hw : m.rest.watch = true
  · rw [if_pos hw]
    cases hc : (choose (.extern "collector.look" 2)).run p m.world with
    | halt h w => exact .inr ⟨_, _, rfl⟩
    | ok k world =>
      have hk := run_ok hc
      rcases k with _ | _ | k
      · exact .inl ⟨{ m with world }, hk, rfl⟩
      · show (∃ m₂, m.world.drawn ≤ m₂.world.drawn ∧ (match look p m.gs m.rest world with | .next m => askOn p m | e => Move.machine e) = askOn p m₂) ∨
          (∃ o w, (match look p m.gs m.rest world with | .next m => askOn p m | e => Move.machine e) = .machine (.ended o w) #[])
        cases hl : look p m.gs m.rest world with
        | next m₂ => exact .inl ⟨m₂, Nat.le_trans hk (look_le _ _ _ _ _ hl), rfl⟩
        | ended o w => exact .inr ⟨o, w, rfl⟩
      · exact .inl ⟨{ m with world }, hk, rfl⟩
  · simp only [hw, Bool.false_eq_true, if_false]
    exact .inl ⟨m, Nat.le_refl _, rfl⟩
theorem ask_goroutine_le (p : Program) (m m' : Machine) (i : Nat) (h : ask p m = .goroutine m' i) : m.world.drawn ≤ m'.world.drawn := by
  rcases ask_le2 p m with ⟨m₂, hs, he⟩ | ⟨o, w, he⟩
  · rw [he] at h; exact Nat.le_trans hs (askOn_goroutine_le p m₂ m' i h)
  · rw [he] at h; cases h
theorem ask_machine_le (p : Program) (m m' : Machine) (ops : Array MemOp) (h : ask p m = .machine (.next m') ops) : m.world.drawn ≤ m'.world.drawn := by
  rcases ask_le2 p m with ⟨m₂, hs, he⟩ | ⟨o, w, he⟩
  · rw [he] at h; exact Nat.le_trans hs (askOn_le p m₂ m' ops h)
  · rw [he] at h; cases h
theorem move_goroutine_le (p : Program) (m m' : Machine) (i : Nat) (h : move p m = .goroutine m' i) : m.world.drawn ≤ m'.world.drawn := by
  unfold move at h
  repeat' first
    | (simp at h; done)
    | (have e := ask_goroutine_le p _ m' i h; exact e)
    | (simp only [Move.goroutine.injEq] at h; obtain ⟨hm, hi⟩ := h; rw [← hm]; exact Nat.le_refl _)
    | split at h
theorem move_machine_le (p : Program) (m m' : Machine) (ops : Array MemOp) (h : move p m = .machine (.next m') ops) : m.world.drawn ≤ m'.world.drawn := by
  unfold move at h
  repeat' first
    | (simp at h; done)
    | (have e := ask_machine_le p _ m' ops h; exact e)
    | split at h
theorem step_le (p : Program) (m m' : Machine) (h : step p m = .next m') : m.world.drawn ≤ m'.world.drawn := by
  unfold step stepT at h
  cases hm : move p m with
  | goroutine m2 i => rw [hm] at h; exact Nat.le_trans (move_goroutine_le p m m2 i hm) (runT_le p m2 m' i _ h)
  | machine s ops =>
    rw [hm] at h
    have h : s = .next m' := h
    subst h
    exact move_machine_le p m m' ops hm
theorem runN_le (p : Program) : ∀ (n : Nat) (m m' : Machine), runN p n m = .next m' → m.world.drawn ≤ m'.world.drawn := by
  intro n
  induction n with
  | zero => intro m m' h; unfold runN at h; injection h with h; rw [h]; exact Nat.le_refl _
  | succ n ih =>
    intro m m' h
    unfold runN at h
    cases hs : step p m with
    | next m2 => rw [hs] at h; exact Nat.le_trans (step_le p m m2 hs) (ih m2 m' h)
    | ended o w => rw [hs] at h; cases h
/-- A call that answers has drawn what it has drawn. -/
theorem calls_le {P : Program} {f : FuncId} {args : Array Value} {w : World} {v : Value} {Q : World → Prop} (h : Calls P f args w fun e w' => e = .returned v ∧ Q w') : Calls P f args w fun e w' => e = .returned v ∧ Q w' ∧ w.drawn ≤ w'.drawn := by
  intro cs
  obtain ⟨e, w', fr, ⟨rfl, hq⟩, hc, hf, hl⟩ := h cs
  refine ⟨_, w', fr, ⟨rfl, hq, ?_⟩, hc, hf, hl⟩
  obtain ⟨n, hn⟩ := hc
  exact runN_le P n _ _ hn
/-- What is below, and has drawn no less, has grown. -/
theorem grow_of {w w' : World} (h : Below w.heap.size w w') (hd : w.drawn ≤ w'.drawn) : ∃ q os, w' = Sort.grow (w.drewN q) os := by
  refine ⟨w'.drawn - w.drawn, w'.heap.extract w.heap.size w'.heap.size, ?_⟩
  obtain ⟨h1, h2, h3, h4, h5⟩ := h
  cases w with
  | mk heap tape drawn os output =>
    cases w' with
    | mk heap' tape' drawn' os' output' =>
      simp only at h1 h2 h3 h4 h5 hd
      subst h1 h2 h3
      unfold Sort.grow World.drewN
      simp only [World.mk.injEq, true_and, and_true]
      refine ⟨?_, by omega⟩
      apply Array.ext_getElem?
      intro k
      rw [Array.getElem?_append]
      by_cases hk : k < heap.size
      · rw [if_pos hk]; exact h5 k hk
      · rw [if_neg hk, Array.getElem?_extract]
        by_cases hk2 : k < heap'.size
        · rw [if_pos (by omega)]; congr 1; omega
        · rw [if_neg (by omega)]; exact Array.getElem?_eq_none (by omega)
/-- A call that answers and leaves all below as it was: in the words of the sort's contract. -/
theorem calls_grow {P : Program} {f : FuncId} {args : Array Value} {w : World} {v : Value} (h : Calls P f args w fun e w' => e = .returned v ∧ Below w.heap.size w w') : Calls P f args w fun e w' => e = .returned v ∧ ∃ q os, w' = Sort.grow (w.drewN q) os :=
  (calls_le h).mono fun _ _ ⟨he, hb, hd⟩ => ⟨he, grow_of hb hd⟩
end Go.Proofs.YthdloddcljbjhaaDoor.Drawn
