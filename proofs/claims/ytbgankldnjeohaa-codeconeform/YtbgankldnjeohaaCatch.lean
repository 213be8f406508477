/- giveUp, and the closure that catches it. -/
import Derived.Test.YtbgankldnjeohaaLiveD
set_option linter.unusedVariables false
set_option linter.unusedSimpArgs false
set_option maxRecDepth 100000
namespace Go.Proofs.Ytbgankldnjeohaa.Pl
open Go.RowKit Go.Proofs.Ytbgankldnjeohaa

/-- A call that gave up. -/
abbrev gave : Ending := .panicked [{ v := .iface 25 (.int .i64 70), recovered := false }]
theorem bodyPost_dies {P : Program} {fn : Func} {R : Ending → World → Prop} {a : Act} {w : World} {chain : List PanicEntry} (hd : a.defers = []) (hR : R (.panicked chain) w) : bodyPost P fn R (.panic chain) a w := ⟨hd, hR⟩
theorem giveUp_any (w : World) : Calls Try.prog 26 #[] w fun e w' => e = gave ∧ w' = w := by
  go_enter Try.func26, Try.ntmps26
  go_wp2
  exact bodyPost_dies rfl ⟨rfl, rfl⟩
theorem catch_finds (p : Addr) (u : Value) (w : World) (hc : w.cell? p = some u) (hf : w.frozen? p = false) :
    CallsD Try.prog 24 #[.pointer (some p)] (.panicking [{ v := .iface 25 (.int .i64 70), recovered := false }]) w fun e u' w' => e = .returned (.tuple #[]) ∧ u' = .panicking [{ v := .iface 25 (.int .i64 70), recovered := true }] ∧ w' = w.setCell p .nilIface := by
  refine callsD_of_wpS Try.func24 rfl fun c₀ cs hu => ?_
  apply wpS_seq
  apply wpS_region
  simp [wpOpsS, go_sem, recoverD, hu, Try.ntmps24, Exit.thenS]
  refine wpS_cond (t := true) (by simp [Act.eval, Array.replicate]) ?_
  simp only [if_true]
  apply wpS_region
  simp [wpOpsS, go_sem, hc, hf, Exit.thenS]
  cases c₀
  simp_all [bodyPostS, results, Try.results24]
end Go.Proofs.Ytbgankldnjeohaa.Pl
