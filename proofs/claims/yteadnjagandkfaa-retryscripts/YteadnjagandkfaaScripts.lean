/- For any table and deadline and any calls of Begin, Moved, Stop and Due, of any ids and any times: each answer is the document's, behind the last one too; the table that was handed in and the lists that came out are written full (T2 to T7, R5). No conditions. -/
import Derived.Test.YteadnjagandkfaaArgs
import Derived.Test.YteadnjagandkfaaScriptsW
import Derived.Test.YteadnjagandkfaaArgsO
set_option linter.unusedVariables false
namespace Go.Proofs.Yteadnjagandkfaa.retryScripts
open Go.ChangeShapes Go.WideShapes Go.ChangeAt Go.RowKit
open Go.ChangeMaps (open_string shut_string)

theorem contract (H : Type) (enc : TypeId × Value → H) (W : World) (base : Nat) (args : Array Value) (ds gs : List (DataW H)) (before : List MemPlace)
    (hval : ∀ (j : Nat) t v, Try.f5.params[j]? = some t → args[j]? = some v → Value.okWide Try.prog W .any base t v)
    (hW : DataW.Whole enc Try.prog Try.f5.params.toList Rows.retryScriptsSpec.vars false W args.toList ds gs before)
    (hsz : (DataW.weightsEach Try.prog (Try.f5.params.toList ++ (OpenSpec.ofChange Rows.retryScriptsSpec).bare.plain.varTypes Try.prog) (ds ++ gs)).all (· ≤ reachBytes) = true) :
    Calls Try.prog 5 args W fun e W' => ∃ v, e = .returned v ∧ Rows.retryScriptsSpec.post enc Try.prog Try.f5 false true false false W args v W' := by
  have hW' := hW
  have hlt := hW.lt
  obtain ⟨p, q, hA0, hV, rfl, hfz, hnd⟩ := hW
  have hA : DataW.TrodAll enc Try.prog W 0 (fun _ => true) true Try.f5.params.toList args.toList ds p := hA0
  rw [Try.params5] at hA hval hsz
  obtain ⟨v0, vs0, d0, ds0, p0, q0, hargs, rfl, rfl, h0, r0⟩ := trodAll_cons hA
  obtain ⟨v1, vs1, d1, ds1, p1, q1, rfl, rfl, rfl, h1, r1⟩ := trodAll_cons r0
  obtain ⟨v2, vs2, d2, ds2, p2, q2, rfl, rfl, rfl, h2, r2⟩ := trodAll_cons r1
  obtain ⟨rfl, rfl, rfl⟩ := trodAll_nil r2
  obtain rfl : args = #[v0, v1, v2] := by cases args; simp_all
  obtain ⟨rfl, rfl⟩ := trodVars_none hV
  have g0 := h0
  obtain ⟨l0, hr0, hz0, hd0⟩ := open_ints (hval 0 22 v0 rfl rfl) h0
  have hl0 := ints_sized hsz (j := 0) rfl rfl hd0
  obtain ⟨s1, rfl, rfl, rfl, hs1⟩ := open_int Try.underlying3 (hval 1 3 v1 rfl rfl) h1
  have hi1 := bounds_i64 hs1
  obtain ⟨l2, hr2, hok2, hd2⟩ := open_script (hval 2 35 v2 rfl rfl) h2
  have hl2 := script_sized hsz (j := 2) rfl rfl hd2
  clear hA0 hfz hnd
  simp only [List.append_nil] at hW' hlt
  refine (scripts_walk v0 l0 hl0 hz0 s1 (i64_in hs1) v2 l2 hl2 hok2 W hr0 hr2).mono fun e W' ⟨he, bel⟩ => ?_
  subst he
  exact ⟨_, rfl, _, _, _, [], _, [], hW', trodAll_cons_mk (shut_bool Try.underlying4 _) trodAll_mk0, (trodAll_cons_mk (WideElems.Trod_stays Try.laidOut (by kernel_rfl) (by decide +kernel) h0 (fun p hp => bel.same (hlt p (by simp [hp]))) (fun p hp => by simpa using hlt p (by simp [hp]))) (trodAll_cons_mk (WideElems.Trod_stays Try.laidOut (by kernel_rfl) (by decide +kernel) h1 (fun p hp => by cases hp) (fun p hp => by cases hp)) (trodAll_cons_mk (WideElems.Trod_stays Try.laidOut (by kernel_rfl) (by decide +kernel) h2 (fun p hp => bel.same (hlt p (by simp [hp]))) (fun p hp => by simpa using hlt p (by simp [hp]))) trodAll_mk0))), rfl, bel.frame _, fun h => by cases h⟩

theorem laid_met (os : Os) : laidMet Try.prog Rows.retryScriptsRow.laid ((holdW os).forCall (fun _ _ => 0) ⟨#[], #[Value.slice none 0 0, Value.int .i64 0, Value.slice none 0 0], []⟩).memory :=
  laidMet_of_run' 8 (by kernel_rfl) (by kernel_rfl)
theorem reads (os : Os) {H : Type} (enc : TypeId × Value → H) : ∃ places, DataW.whole enc Try.prog ((holdW os).forCall (fun _ _ => 0) ⟨#[], #[Value.slice none 0 0, Value.int .i64 0, Value.slice none 0 0], []⟩).memory Try.f5.params.toList Rows.retryScriptsSpec.vars false #[Value.slice none 0 0, Value.int .i64 0, Value.slice none 0 0].toList 8 = some ([.nil, .lit (.int .i64 0), .nil], [], places) :=
  ⟨[], by kernel_rfl⟩

set_option maxRecDepth 100000 in
theorem lifted (os : Os) (started : os.Started) (H : Type) (enc : TypeId × Value → H) (F : Stop.Interp) :
    ReturnsInHanded {} Try.checked os 5 .any ((OpenSpec.ofChange Rows.retryScriptsSpec).preRow enc Try.prog Try.f5 Rows.retryScriptsRow.domain false Rows.retryScriptsRow.laid) (((OpenSpec.ofChange Rows.retryScriptsSpec).at F).post enc Try.prog Try.f5 false true false false) := by
  obtain ⟨places, hx⟩ := reads os enc
  refine returnsInHanded_of_row (C := Try.checked) (s := (OpenSpec.ofChange Rows.retryScriptsSpec)) own started (by kernel_rfl) Try.func5
    (witness_row_at (enc := enc) (C := Try.checked) false (holdW os) #[Value.slice none 0 0, Value.int .i64 0, Value.slice none 0 0] rfl (by kernel_rfl) (by kernel_rfl) (by kernel_rfl)
      (OpenSpec.preRow_of_cond 8 hx (by kernel_rfl) (fun k hk => by cases hk) (by kernel_rfl) (laid_met os))) ?_
  intro W base args ds gs before hval hW hcnd hcond hsz hL _ _
  exact contract H enc W base args ds gs before hval hW hsz

end Go.Proofs.Yteadnjagandkfaa.retryScripts
namespace Go.Proofs.Yteadnjagandkfaa
theorem retryScripts_holds : Rows.RetryScriptsSaid :=
  OpenClaim.holds_of_cond 5 Try.f5 rfl rfl rfl rfl rfl rfl rfl ⟨rfl, rfl, rfl, rfl, rfl⟩ rfl rfl rfl rfl rfl (by kernel_rfl) Try.func5 (by kernel_rfl)
    (of_decide_eq_true (by kernel_rfl)) (by unfold Func.isWrapper; first | (rw [if_pos (by decide +kernel)]; kernel_rfl) | (rw [if_neg (by decide +kernel)]; exact ⟨rfl, rfl⟩))
    (fun os started H enc _ F => by rw [OpenClaim.pre_eq_preRow]; exact retryScripts.lifted os started H enc F)
#print axioms retryScripts_holds
end Go.Proofs.Yteadnjagandkfaa
