/- For every script of calls, every instance and every list of keys: what was taken by one that had none goes back by a Drop, which tells how many unlike keys these were, and all stands as before (P16.3); script and keys read as they did. Conditions: the arguments hold together at most 1048576 values and letters; the package variables unicode/utf8.first and unicode/utf8.acceptRanges begin as the library's text lays them (tied by the card). -/
import Derived.Test.YthdloddcljbjhaaDoorCards
import Derived.Test.YthdloddcljbjhaaDoorTie
import Derived.Test.YthdloddcljbjhaaDoorLaid
import Derived.Test.YthdloddcljbjhaaDoorSortW
import Derived.Test.YthdloddcljbjhaaDoorBackW
set_option linter.unusedVariables false
namespace Go.Proofs.YthdloddcljbjhaaDoor.locksBack
open Go.ChangeShapes Go.WideShapes Go.ChangeAt Go.RowKit
open Go.ChangeMaps (open_string shut_string)

theorem contract (H : Type) (enc : TypeId × Value → H) (W : World) (base : Nat) (args : Array Value) (ds gs : List (DataW H)) (before : List MemPlace)
    (hval : ∀ (j : Nat) t v, Tryd.f5.params[j]? = some t → args[j]? = some v → Value.okWide Tryd.prog W .any base t v)
    (hW : DataW.Whole enc Tryd.prog Tryd.f5.params.toList Rows.locksBackSpec.vars false W args.toList ds gs before) (hL : laidMetH Tryd.prog Rows.locksBackUptoRow.laid W)
    (hsz : (DataW.weightsEach Tryd.prog (Tryd.f5.params.toList ++ (Rows.OpenSpec.upto Rows.locksBackSpec).bare.plain.varTypes Tryd.prog) (ds ++ gs)).all (· ≤ reachBytes) = true) (hk : Rows.uptoSmall H (ds ++ gs) = true) :
    Calls Tryd.prog 5 args W fun e W' => ∃ v, e = .returned v ∧ Rows.locksBackSpec.post enc Tryd.prog Tryd.f5 false true false false W args v W' := by
  have hW' := hW
  have hlt := hW.lt
  obtain ⟨p, q, hA0, hV, rfl, hfz, hnd⟩ := hW
  have hA : DataW.TrodAll enc Tryd.prog W 0 (fun _ => true) true Tryd.f5.params.toList args.toList ds p := hA0
  rw [Tryd.params5] at hA hval hsz
  obtain ⟨v0, vs0, d0, ds0, p0, q0, hargs, rfl, rfl, h0, r0⟩ := trodAll_cons hA
  obtain ⟨v1, vs1, d1, ds1, p1, q1, rfl, rfl, rfl, h1, r1⟩ := trodAll_cons r0
  obtain ⟨v2, vs2, d2, ds2, p2, q2, rfl, rfl, rfl, h2, r2⟩ := trodAll_cons r1
  obtain ⟨rfl, rfl, rfl⟩ := trodAll_nil r2
  obtain rfl : args = #[v0, v1, v2] := by cases args; simp_all
  obtain ⟨rfl, rfl⟩ := trodVars_none hV
  have g0 := h0
  obtain ⟨l0, hr0, hd0⟩ := ops_in (hval 0 22 v0 rfl rfl) h0
  obtain ⟨s1, rfl, rfl, rfl, hs1⟩ := open_int Tryd.underlying3 (hval 1 3 v1 rfl rfl) h1
  have hi1 := bounds_i64 hs1
  obtain ⟨l2, hr2, hd2⟩ := keys_in (hval 2 27 v2 rfl rfl) h2
  clear hA0 hfz hnd
  simp only [List.append_nil] at hW' hlt
  have hu := of_decide_eq_true hk
  simp only [List.cons_append, List.nil_append, Rows.uptoBulkAll, Rows.uptoBulk] at hu
  obtain ⟨hb0, hb1, hb2⟩ := script_bulk hd0
  have hro := hr0.sized (by omega) (by omega) (fun o ho s hs => Nat.le_trans (hb2 o ho s hs) (by omega))
  obtain ⟨kb1, kb2⟩ := keys_bulk hd2
  have hks : ∀ s, s ∈ l2 → s.size ≤ 1048576 := fun s hs => Nat.le_trans (kb2 s hs) (by omega)
  have hkr := hr2.sized (by omega) hks
  refine (back_walk (fun rs => sorts_here (table hL) sort_none) _ l0 hro s1 hi1 _ l2 hkr hks (by omega)).mono fun e W' ⟨he, bel⟩ => ?_
  subst he
  exact ⟨_, rfl, _, _, _, [], _, [], hW', trodAll_cons_mk (shut_bool Tryd.underlying4 _) trodAll_mk0, (trodAll_cons_mk (WideElems.Trod_stays Tryd.laidOut (by kernel_rfl) (by decide +kernel) h0 (fun p hp => bel.same (hlt p (by simp [hp]))) (fun p hp => by simpa using hlt p (by simp [hp]))) (trodAll_cons_mk (WideElems.Trod_stays Tryd.laidOut (by kernel_rfl) (by decide +kernel) h1 (fun p hp => by cases hp) (fun p hp => by cases hp)) (trodAll_cons_mk (WideElems.Trod_stays Tryd.laidOut (by kernel_rfl) (by decide +kernel) h2 (fun p hp => bel.same (hlt p (by simp [hp]))) (fun p hp => by simpa using hlt p (by simp [hp]))) trodAll_mk0))), rfl, bel.frame _, fun h => by cases h⟩

theorem laid_met (os : Os) : laidMet Tryd.prog Rows.locksBackUptoRow.laid ((laidWorld os).forCall (fun _ _ => 0) ⟨#[], #[Value.slice none 0 0, Value.int .i64 0, Value.slice none 0 0], []⟩).memory :=
  laidMet_of_run' 8 (by kernel_rfl) (by kernel_rfl)
theorem reads (os : Os) {H : Type} (enc : TypeId × Value → H) : ∃ places, DataW.whole enc Tryd.prog ((laidWorld os).forCall (fun _ _ => 0) ⟨#[], #[Value.slice none 0 0, Value.int .i64 0, Value.slice none 0 0], []⟩).memory Tryd.f5.params.toList Rows.locksBackSpec.vars false #[Value.slice none 0 0, Value.int .i64 0, Value.slice none 0 0].toList 8 = some ([.nil, .lit (.int .i64 0), .nil], [], places) :=
  ⟨[], by kernel_rfl⟩

set_option maxRecDepth 100000 in
theorem lifted (os : Os) (started : os.Started) (H : Type) (enc : TypeId × Value → H) (F : Stop.Interp) :
    ReturnsInHanded {} Tryd.checked os 5 .any ((Rows.OpenSpec.upto Rows.locksBackSpec).preRow enc Tryd.prog Tryd.f5 Rows.locksBackUptoRow.domain false Rows.locksBackUptoRow.laid) (((Rows.OpenSpec.upto Rows.locksBackSpec).at F).post enc Tryd.prog Tryd.f5 false true false false) := by
  obtain ⟨places, hx⟩ := reads os enc
  refine returnsInHanded_of_row (C := Tryd.checked) (s := (Rows.OpenSpec.upto Rows.locksBackSpec)) own started (by kernel_rfl) Tryd.func5
    (witness_row_at (enc := enc) (C := Tryd.checked) false (laidWorld os) #[Value.slice none 0 0, Value.int .i64 0, Value.slice none 0 0] rfl (by kernel_rfl) (by kernel_rfl) (by kernel_rfl)
      (OpenSpec.preRow_of_cond 8 hx (by kernel_rfl) (fun k hk => by cases hk; kernel_rfl) (by kernel_rfl) (laid_met os))) ?_
  intro W base args ds gs before hval hW hcnd hcond hsz hL _ _
  exact contract H enc W base args ds gs before hval hW hL hsz (hcond _ rfl)

theorem said : Rows.LocksBackUptoSaid :=
  OpenClaim.holds_of_cond 5 Tryd.f5 rfl rfl rfl rfl rfl rfl rfl ⟨rfl, rfl, rfl, rfl, rfl⟩ rfl rfl rfl rfl rfl (by kernel_rfl) Tryd.func5 (by kernel_rfl)
    (of_decide_eq_true (by kernel_rfl)) (by unfold Func.isWrapper; first | (rw [if_pos (by decide +kernel)]; kernel_rfl) | (rw [if_neg (by decide +kernel)]; exact ⟨rfl, rfl⟩))
    (fun os started H enc _ F => by rw [OpenClaim.pre_eq_preRow]; exact lifted os started H enc F)

/-- No parameter wants a stand-in; the program's own looks are off. -/
theorem plain (f : FuncId) (fn : Func) (hf : Tryd.pinned.checked.prog.funcNamed "odyssey/odysseylaw16.LocksBack" = some f) (hfn : Tryd.pinned.checked.prog.funcs[f]? = some fn) :
    false = Tryd.pinned.checked.prog.looks [] ∧ ∀ (j : Nat) t, fn.params[j]? = some t → Tryd.pinned.checked.prog.wantsStandIn t = false := by
  obtain rfl : f = 5 := Option.some.inj ((show Tryd.prog.funcNamed "odyssey/odysseylaw16.LocksBack" = some 5 by kernel_rfl).symm.trans hf) |>.symm
  obtain rfl : fn = Tryd.f5 := (Option.some.inj (Tryd.func5.symm.trans hfn)).symm
  refine ⟨by kernel_rfl, fun j t ht => ?_⟩
  rw [Tryd.params5] at ht
  have ht' : t ∈ #[22, 3, 27] := Array.mem_of_getElem? ht
  simp only [List.mem_toArray, List.mem_cons, List.not_mem_nil, or_false] at ht'
  rcases ht' with rfl | rfl | rfl
  all_goals first | exact (show Tryd.prog.wantsStandIn 22 = false by kernel_rfl) | exact (show Tryd.prog.wantsStandIn 3 = false by kernel_rfl) | exact (show Tryd.prog.wantsStandIn 27 = false by kernel_rfl)
end Go.Proofs.YthdloddcljbjhaaDoor.locksBack
namespace Go.Proofs.YthdloddcljbjhaaDoor
/-- THE CARD. -/
theorem locksBackUpto_card : Rows.LocksBackUptoCardSaid :=
  Claim7.holds_tied_plain_at .later [] _ _ _ _ locksBack.said (fun _ h => by cases h) (by kernel_rfl) (fun _ h => by cases h) locksBackUpto_row_tie rfl ⟨rfl, rfl⟩ (by kernel_rfl) rfl locksBack.plain (by kernel_rfl)
#print axioms locksBackUpto_card
end Go.Proofs.YthdloddcljbjhaaDoor
