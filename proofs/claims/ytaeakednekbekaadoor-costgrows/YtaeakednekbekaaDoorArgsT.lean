/- All that is known of a definition that came in. -/
import Derived.Test.YtaeakednekbekaaDoorArgsC
import Derived.Test.YtaeakednekbekaaDoorRefCW
set_option linter.unusedVariables false
namespace Go.Proofs.YtaeakednekbekaaDoor
open Go.ChangeShapes Go.WideShapes Go.ChangeAt Go.RowKit CheckMath

section
variable {H : Type} {enc : TypeId × Value → H} {w : World} {n : Nat}
theorem keys_sz {l : List ByteArray} {d : DataW H} (hs : ∀ n ∈ d.weights Tryd.prog 42, n ≤ reachBytes) (hd : KDat d l) : ∀ x, x ∈ l → x.size ≤ 140737488351232 := by
  have hr : reachBytes = 140737488351232 := rfl
  rcases hd with ⟨_, rfl⟩ | ⟨sp, rfl⟩
  · exact fun x hx => by cases hx
  · simp only [DataW.weights, Tryd.underlying42, List.mem_cons, List.mem_append] at hs
    intro x hx
    have := hs x.data.toList.length (Or.inr (Or.inl (weightsAll_mem (List.mem_map.2 ⟨x, hx, rfl⟩) (by simp [DataW.weights]))))
    have e : x.data.toList.length = x.size := Array.length_toList
    omega
theorem steps_sz {ss : List StepD} {d : DataW H} (hs : ∀ n ∈ d.weights Tryd.prog 22, n ≤ reachBytes) (hd : SDat d ss) : ∀ s, s ∈ ss → s.name.size ≤ 140737488351232 ∧ ∀ k, k ∈ s.keys → k.size ≤ 140737488351232 := by
  have hr : reachBytes = 140737488351232 := rfl
  rcases hd with ⟨_, rfl⟩ | ⟨ds, sp, rfl, hl, hds⟩
  · exact fun s hs => by cases hs
  · simp only [DataW.weights, Tryd.underlying22, List.mem_cons, List.mem_append] at hs
    intro s hm
    obtain ⟨j, hj, rfl⟩ := List.mem_iff_getElem.1 hm
    obtain ⟨e, he, dk, dn, rfl, hk, hn⟩ := hds j hj
    rw [nth_eq hj] at hk hn he
    have hsub : ∀ n, n ∈ (DataW.agg [.lit (.string ss[j].name.data.toList), .lit (.int .i64 ss[j].kind), .lit (.int .i64 ss[j].part), dk, dn] : DataW H).weights Tryd.prog 44 → n ≤ reachBytes := fun n hn => hs n (Or.inr (Or.inl (weightsAll_mem (List.mem_of_getElem? he) hn)))
    simp only [DataW.weights, Tryd.underlying44, DataW.weightsEach, List.map_cons, List.map_nil, List.mem_append] at hsub
    refine ⟨?_, keys_sz (fun n hn => hsub n (by simp [hn])) hk⟩
    have := hsub ss[j].name.data.toList.length (by simp)
    have e : ss[j].name.data.toList.length = ss[j].name.size := Array.length_toList
    omega
theorem def_all {ts : List TypeId} {ds : List (DataW H)} {base : Nat} {v : Value} {d : DataW H} {p : List MemPlace} (hsz : (DataW.weightsEach Tryd.prog ts ds).all (· ≤ reachBytes) = true) {j : Nat} (ht : ts[j]? = some 24) (hd : ds[j]? = some d)
    (hv : Value.okWide Tryd.prog w .any base 24 v) (h : DataW.Trod enc Tryd.prog w 0 (fun _ => true) true 24 v d p) : ∃ D : DefD, DefIn w v D ∧ D.steps.length * 80 ≤ 140737488355328 ∧ (∀ s, s ∈ D.steps → StOk s) ∧ SzD D := by
  obtain ⟨D, sv, hc, hs, sd, rfl, hdat⟩ := open_def h
  obtain ⟨cs, rfl, _⟩ := okWide_struct Tryd.underlying24 hv
  have hall : ∀ n, n ∈ (DataW.agg [.lit (.string D.name.data.toList), sd] : DataW H).weights Tryd.prog 24 → n ≤ reachBytes := fun n hn => by
    have := List.all_eq_true.1 hsz _ (DataW.weights_mem_each ht hd n hn)
    simpa using this
  simp only [DataW.weights, Tryd.underlying24, DataW.weightsEach, List.map_cons, List.map_nil, List.mem_append] at hall
  obtain ⟨hr, h80⟩ := steps_sized (fun n hn => hall n (by simp [hn])) hdat hs
  have hrr : reachBytes = 140737488351232 := rfl
  have hnm := hall D.name.data.toList.length (by simp)
  have e : D.name.data.toList.length = D.name.size := Array.length_toList
  refine ⟨D, ⟨sv, ?_, hr⟩, by omega, steps_ok (fun n hn => hall n (by simp [hn])) hdat, by omega, steps_sz (fun n hn => hall n (by simp [hn])) hdat⟩
  have : cs = #[.string D.name, sv] := by
    have e : (Value.agg cs).cells = cs := rfl
    rw [e] at hc
    exact Array.toList_inj.1 (by simpa using hc)
  rw [this]
end
end Go.Proofs.YtaeakednekbekaaDoor
