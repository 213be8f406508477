/- What the rows share: the settled world, and arguments read as data. -/
import Derived.Test.YtahkecdlibkokaaDoorRows
import Derived.Test.YtahkecdlibkokaaDoorBase
import Derived.ProofKit
import Derived.OpenShut
import Derived.Below
import Derived.SizedLaws
import Derived.WideKeyArgs
import Derived.Deep.DeepHandedRow
import Derived.Deep.Strs
import Derived.LaidLaws
set_option linter.unusedVariables false
set_option maxRecDepth 100000
namespace Go.Proofs.YtahkecdlibkokaaDoor
open Go.ChangeShapes Go.WideShapes Go.ChangeAt Go.RowKit

theorem own : ownKnob Tryd.prog.godebug = none := by kernel_rfl
theorem Tryd.laidOut : laidOutB Tryd.prog = true := by kernel_rfl
noncomputable def holdW (os : Os) : World := World.holding Tryd.prog os ⟨#[], #[], []⟩

/-- A list of texts that came in. -/
theorem open_list {H : Type} {enc : TypeId × Value → H} {W : World} {base t e : Nat} {v : Value} {d : DataW H} {p : List MemPlace} (ht : Tryd.prog.underlying t = some (.slice e)) (he : Tryd.prog.underlying e = some .string) (hc : Tryd.prog.cellsOf e = 1)
    (hv : Value.okWide Tryd.prog W .any base t v) (h : DataW.Trod enc Tryd.prog W 0 (fun _ => true) true t v d p) :
    ∃ xs : List (List UInt8), SRow W v xs ∧ ((d = .nil ∧ xs = []) ∨ ∃ sp, d = .slice (xs.map fun s => .lit (.string s)) sp) := by
  obtain ⟨a0, len0, cap0, rfl⟩ := okWide_slice ht hv
  obtain ⟨n, hn⟩ := h
  rcases Go.Deep.open_strs ht he hc hn with ⟨hcs, hx⟩ | ⟨a, len, cap, m, Sx, hcs, _, hl, hm, hmm, hx, hcell⟩
  · simp [Value.cells] at hcs
    obtain ⟨rfl, rfl, rfl⟩ := hcs
    simp only [Prod.mk.injEq] at hx
    exact ⟨[], ⟨none, 0, rfl, ⟨Nat.le_refl _, fun _ => rfl⟩, fun j hj => by simp at hj⟩, Or.inl ⟨hx.1, rfl⟩⟩
  · simp [Value.cells] at hcs
    obtain ⟨rfl, rfl, rfl⟩ := hcs
    simp only [if_true] at hmm
    subst hmm
    simp only [Prod.mk.injEq] at hx
    refine ⟨(List.range len0).map fun i => (Sx i).data.toList, ⟨some a, m, by simp, ⟨by simpa using hl, fun h => by cases h⟩, fun j hj => ?_⟩, Or.inr ⟨(List.range (m - len0)).map fun j => DataW.lit (Lit.string (Sx (len0 + j)).data.toList), by rw [hx.1]; simp⟩⟩
    simp at hj
    obtain ⟨b, off, spot⟩ := a
    have hspot : spot = none := by simpa [Addr.add] using World.cell?_spot (hcell 0 (by omega)).1
    subst hspot
    refine ⟨b, off, rfl, ?_⟩
    have := (hcell j (by omega)).1
    rw [add_plain] at this
    rw [this]
    simp [strV_data]
theorem mem_weightsAll {H : Type} {P : Program} {e : TypeId} {k : Nat} {d : DataW H} : ∀ {l : List (DataW H)}, d ∈ l → k ∈ d.weights P e → k ∈ DataW.weightsAll P e l
  | x :: r, h, hk => by
    rw [DataW.weightsAll]
    rcases List.mem_cons.1 h with rfl | h
    · exact List.mem_append_left _ hk
    · exact List.mem_append_right _ (mem_weightsAll h hk)
theorem list_sized {H : Type} {ts : List TypeId} {ds : List (DataW H)} (hsz : (DataW.weightsEach Tryd.prog ts ds).all (· ≤ reachBytes) = true) {j : Nat} {t e : TypeId} {d : DataW H} {xs : List (List UInt8)} (ht : ts[j]? = some t) (hd : ds[j]? = some d)
    (hu : Tryd.prog.underlying t = some (.slice e)) (hb : Tryd.prog.bytesOf e = 16) (h : (d = .nil ∧ xs = []) ∨ ∃ sp, d = .slice (xs.map fun s => .lit (.string s)) sp) : xs.length * 16 ≤ 140737488351232 ∧ ∀ s ∈ xs, s.length ≤ 140737488351232 := by
  rcases h with ⟨_, rfl⟩ | ⟨sp, rfl⟩
  · exact ⟨by simp, fun s hs => by cases hs⟩
  · refine ⟨?_, fun s hs => ?_⟩
    · have := sized_slice hsz ht hd hu
      rw [hb, List.length_map] at this
      have hr : reachBytes = 140737488351232 := rfl
      omega
    · have := List.all_eq_true.1 hsz s.length (DataW.weights_mem_each ht hd _ (by
        rw [DataW.weights, hu]
        refine List.mem_cons_of_mem _ (List.mem_append_left _ (mem_weightsAll (List.mem_map.2 ⟨s, hs, rfl⟩) ?_))
        simp [DataW.weights]))
      exact of_decide_eq_true this

theorem cells_at {w : World} {b off n : Nat} {base : Nat} {cs : List Value} (h : w.cells? base ⟨b, off, none⟩ n = some cs) (j : Nat) (hj : j < n) : w.cell? ⟨b, off + j, none⟩ = cs[j]? := by
  obtain ⟨_, hl, hc⟩ := World.cells?_some h
  have := hc j hj
  rwa [add_plain] at this
end Go.Proofs.YtahkecdlibkokaaDoor
