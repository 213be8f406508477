/- What is known of the sizes of a definition that came in. -/
import Derived.Test.YtaeakednekbekaaDoorArgs
import Derived.Test.YtaeakednekbekaaDoorCopyB
set_option linter.unusedVariables false
namespace Go.Proofs.YtaeakednekbekaaDoor
open Go.ChangeShapes Go.WideShapes Go.ChangeAt Go.RowKit CheckMath

section
variable {H : Type} {enc : TypeId × Value → H} {w : World} {n : Nat}
theorem keys_ok {l : List ByteArray} {d : DataW H} (hs : ∀ n ∈ d.weights Tryd.prog 42, n ≤ reachBytes) (hd : KDat d l) : l.length * 16 ≤ 140737488355328 ∧ ∀ x, x ∈ l → x.size ≤ 140737488355328 := by
  have hr : reachBytes = 140737488351232 := rfl
  rcases hd with ⟨_, rfl⟩ | ⟨sp, rfl⟩
  · exact ⟨by simp, fun x hx => by cases hx⟩
  · simp only [DataW.weights, Tryd.underlying42, List.mem_cons, List.mem_append] at hs
    refine ⟨?_, fun x hx => ?_⟩
    · have := hs _ (Or.inl rfl)
      rw [show Tryd.prog.bytesOf 9 = 16 by kernel_rfl, List.length_map] at this
      omega
    · have := hs x.data.toList.length (Or.inr (Or.inl (weightsAll_mem (List.mem_map.2 ⟨x, hx, rfl⟩) (by simp [DataW.weights]))))
      have e : x.data.toList.length = x.size := Array.length_toList
      omega
theorem needs_ok {l : List Int} {d : DataW H} (hs : ∀ n ∈ d.weights Tryd.prog 32, n ≤ reachBytes) (hd : IDat d l) : l.length * 8 ≤ 140737488355328 := by
  have hr : reachBytes = 140737488351232 := rfl
  rcases hd with ⟨_, rfl⟩ | ⟨sp, rfl⟩
  · simp
  · simp only [DataW.weights, Tryd.underlying32, List.mem_cons, List.mem_append] at hs
    have := hs _ (Or.inl rfl)
    rw [show Tryd.prog.bytesOf 3 = 8 by kernel_rfl, List.length_map] at this
    omega
theorem steps_ok {ss : List StepD} {d : DataW H} (hs : ∀ n ∈ d.weights Tryd.prog 22, n ≤ reachBytes) (hd : SDat d ss) : ∀ s, s ∈ ss → StOk s := by
  rcases hd with ⟨_, rfl⟩ | ⟨ds, sp, rfl, hl, hds⟩
  · exact fun s hs => by cases hs
  · simp only [DataW.weights, Tryd.underlying22, List.mem_cons, List.mem_append] at hs
    intro s hm
    obtain ⟨j, hj, rfl⟩ := List.mem_iff_getElem.1 hm
    obtain ⟨e, he, dk, dn, rfl, hk, hn⟩ := hds j hj
    rw [nth_eq hj] at hk hn he
    have hsub : ∀ n, n ∈ (DataW.agg [.lit (.string ss[j].name.data.toList), .lit (.int .i64 ss[j].kind), .lit (.int .i64 ss[j].part), dk, dn] : DataW H).weights Tryd.prog 44 → n ≤ reachBytes := fun n hn => hs n (Or.inr (Or.inl (weightsAll_mem (List.mem_of_getElem? he) hn)))
    simp only [DataW.weights, Tryd.underlying44, DataW.weightsEach, List.map_cons, List.map_nil, List.mem_append] at hsub
    obtain ⟨k1, k2⟩ := keys_ok (fun n hn => hsub n (by simp [hn])) hk
    exact ⟨k1, k2, needs_ok (fun n hn => hsub n (by simp [hn])) hn⟩
/-- A definition that came in, and its sizes. -/
theorem def_ok {ts : List TypeId} {ds : List (DataW H)} {base : Nat} {v : Value} {d : DataW H} {p : List MemPlace} (hsz : (DataW.weightsEach Tryd.prog ts ds).all (· ≤ reachBytes) = true) {j : Nat} (ht : ts[j]? = some 24) (hd : ds[j]? = some d)
    (hv : Value.okWide Tryd.prog w .any base 24 v) (h : DataW.Trod enc Tryd.prog w 0 (fun _ => true) true 24 v d p) : ∃ D : DefD, DefIn w v D ∧ D.steps.length * 80 ≤ 140737488355328 ∧ ∀ s, s ∈ D.steps → StOk s := by
  obtain ⟨D, sv, hc, hs, sd, rfl, hdat⟩ := open_def h
  obtain ⟨cs, rfl, _⟩ := okWide_struct Tryd.underlying24 hv
  have hall : ∀ n, n ∈ (DataW.agg [.lit (.string D.name.data.toList), sd] : DataW H).weights Tryd.prog 24 → n ≤ reachBytes := fun n hn => by
    have := List.all_eq_true.1 hsz _ (DataW.weights_mem_each ht hd n hn)
    simpa using this
  simp only [DataW.weights, Tryd.underlying24, DataW.weightsEach, List.map_cons, List.map_nil, List.mem_append] at hall
  obtain ⟨hr, h80⟩ := steps_sized (fun n hn => hall n (by simp [hn])) hdat hs
  refine ⟨D, ⟨sv, ?_, hr⟩, by omega, steps_ok (fun n hn => hall n (by simp [hn])) hdat⟩
  have : cs = #[.string D.name, sv] := by
    have e : (Value.agg cs).cells = cs := rfl
    rw [e] at hc
    exact Array.toList_inj.1 (by simpa using hc)
  rw [this]
end
end Go.Proofs.YtaeakednekbekaaDoor
