/- What the rows share: the settled world; rows of numbers, of bools, of calls that came in, read as data. -/
import Derived.Test.YteadnjagandkfaaRows
import Derived.Test.YteadnjagandkfaaAgainW
import Derived.ProofKit
import Derived.OpenShut
import Derived.Below
import Derived.SizedLaws
import Derived.WideKeyArgs
import Derived.Deep.DeepHandedRow
import Derived.Deep.Strs
import Derived.LaidLaws
set_option linter.unusedVariables false
namespace Go.Proofs.Yteadnjagandkfaa
open Go.ChangeShapes Go.WideShapes Go.ChangeAt Go.RowKit

theorem own : ownKnob Try.prog.godebug = none := by kernel_rfl
theorem Try.laidOut : laidOutB Try.prog = true := by kernel_rfl
noncomputable def holdW (os : Os) : World := World.holding Try.prog os ⟨#[], #[], []⟩
/-- How the data look. -/
def IDat {H : Type} (d : DataW H) (l : List Int) : Prop := (d = .nil ∧ l = []) ∨ ∃ sp, d = .slice (l.map fun n => .lit (.int .i64 n)) sp
def BDat {H : Type} (d : DataW H) (l : List Bool) : Prop := (d = .nil ∧ l = []) ∨ ∃ sp, d = .slice (l.map fun n => .lit (.bool n)) sp
theorem i64_of {n : Int} (h : (Lit.int .i64 n).wf = true) : I64 n := by
  have := bounds_i64 h
  unfold I64
  omega
section
variable {H : Type} {enc : TypeId × Value → H} {W : World} {base : Nat} {v : Value} {d : DataW H} {p : List MemPlace}
theorem open_ints (hv : Value.okWide Try.prog W .any base 22 v) (h : DataW.Trod enc Try.prog W 0 (fun _ => true) true 22 v d p) :
    ∃ l : List Int, IRow W v l ∧ (∀ x ∈ l, I64 x) ∧ IDat d l := by
  have ci : Try.prog.cellsOf 3 = 1 := by kernel_rfl
  obtain ⟨a0, len0, cap0, rfl⟩ := okWide_slice Try.underlying22 hv
  obtain ⟨n, hn⟩ := h
  rcases Go.Deep.open_slice Try.underlying22 hn with ⟨hcs, hx⟩ | ⟨a, len, cap, m, n', D, Pl, hcs, _, hl, hm, hmm, hx, hcell⟩
  · simp [Value.cells] at hcs
    obtain ⟨rfl, rfl, rfl⟩ := hcs
    simp only [Prod.mk.injEq] at hx
    exact ⟨[], ⟨none, 0, rfl, Nat.le_refl _, fun _ => rfl, fun j hj => by simp at hj⟩, fun o ho => (by cases ho), Or.inl ⟨hx.1, rfl⟩⟩
  · simp [Value.cells] at hcs
    obtain ⟨rfl, rfl, rfl⟩ := hcs
    simp only [if_true] at hmm
    subst hmm
    simp only [Prod.mk.injEq] at hx
    rw [ci] at hcell
    have each : ∀ i, i < m → ∃ v : Int, W.cell? (a.add i) = some (.int .i64 v) ∧ D i = .lit (.int .i64 v) ∧ I64 v := fun i hi => by
      obtain ⟨cs', h1, h2⟩ := hcell i hi
      obtain ⟨v, e1, e2, e3⟩ := DataW.trod_int Try.underlying3 h2
      simp only [Prod.mk.injEq] at e2
      refine ⟨v, ?_, e2.1, i64_of e3⟩
      obtain ⟨_, _, hc⟩ := World.cells?_some h1
      have := hc 0 (by decide)
      rw [e1, Nat.mul_one] at this
      simpa [Addr.add] using this
    obtain ⟨V, hV⟩ := Go.Deep.choose_lt each
    refine ⟨(List.range len0).map V, ⟨some a, m, by simp, by simpa using hl, fun h => (by cases h), fun j hj => ?_⟩, fun x hx => ?_, Or.inr ⟨(List.range (m - len0)).map fun j => D (len0 + j), ?_⟩⟩
    · simp at hj
      obtain ⟨b, off, spot⟩ := a
      have hspot : spot = none := by simpa [Addr.add] using World.cell?_spot (hV 0 (by omega)).1
      subst hspot
      have := (hV j (by omega)).1
      rw [add_plain] at this
      refine ⟨b, off, rfl, block_lt_of_cell this, ?_⟩
      rw [this]
      simp
    · obtain ⟨i, hi, rfl⟩ := List.mem_map.1 hx
      exact (hV i (by have := List.mem_range.1 hi; omega)).2.2
    · rw [hx.1, List.map_map]
      congr 1
      apply List.map_congr_left
      intro i hi
      exact (hV i (by have := List.mem_range.1 hi; omega)).2.1
theorem open_bools (hv : Value.okWide Try.prog W .any base 46 v) (h : DataW.Trod enc Try.prog W 0 (fun _ => true) true 46 v d p) :
    ∃ l : List Bool, BRow W v l ∧ BDat d l := by
  have ci : Try.prog.cellsOf 4 = 1 := by kernel_rfl
  obtain ⟨a0, len0, cap0, rfl⟩ := okWide_slice Try.underlying46 hv
  obtain ⟨n, hn⟩ := h
  rcases Go.Deep.open_slice Try.underlying46 hn with ⟨hcs, hx⟩ | ⟨a, len, cap, m, n', D, Pl, hcs, _, hl, hm, hmm, hx, hcell⟩
  · simp [Value.cells] at hcs
    obtain ⟨rfl, rfl, rfl⟩ := hcs
    simp only [Prod.mk.injEq] at hx
    exact ⟨[], ⟨none, 0, rfl, Nat.le_refl _, fun j hj => by simp at hj⟩, Or.inl ⟨hx.1, rfl⟩⟩
  · simp [Value.cells] at hcs
    obtain ⟨rfl, rfl, rfl⟩ := hcs
    simp only [if_true] at hmm
    subst hmm
    simp only [Prod.mk.injEq] at hx
    rw [ci] at hcell
    have each : ∀ i, i < m → ∃ v : Bool, W.cell? (a.add i) = some (.bool v) ∧ D i = .lit (.bool v) := fun i hi => by
      obtain ⟨cs', h1, h2⟩ := hcell i hi
      obtain ⟨v, e1, e2⟩ := DataW.trod_bool Try.underlying4 h2
      simp only [Prod.mk.injEq] at e2
      refine ⟨v, ?_, e2.1⟩
      obtain ⟨_, _, hc⟩ := World.cells?_some h1
      have := hc 0 (by decide)
      rw [e1, Nat.mul_one] at this
      simpa [Addr.add] using this
    obtain ⟨V, hV⟩ := Go.Deep.choose_lt each
    refine ⟨(List.range len0).map V, ⟨some a, m, by simp, by simpa using hl, fun j hj => ?_⟩, Or.inr ⟨(List.range (m - len0)).map fun j => D (len0 + j), ?_⟩⟩
    · simp at hj
      obtain ⟨b, off, spot⟩ := a
      have hspot : spot = none := by simpa [Addr.add] using World.cell?_spot (hV 0 (by omega)).1
      subst hspot
      have := (hV j (by omega)).1
      rw [add_plain] at this
      refine ⟨b, off, rfl, block_lt_of_cell this, ?_⟩
      rw [this]
      simp
    · rw [hx.1, List.map_map]
      congr 1
      apply List.map_congr_left
      intro i hi
      exact (hV i (by have := List.mem_range.1 hi; omega)).2
end
theorem ints_sized {H : Type} {ts : List TypeId} {ds : List (DataW H)} (hsz : (DataW.weightsEach Try.prog ts ds).all (· ≤ reachBytes) = true) {j : Nat} {d : DataW H} {l : List Int} (ht : ts[j]? = some 22) (hd : ds[j]? = some d)
    (h : IDat d l) : l.length ≤ 140737488355328 := by
  rcases h with ⟨_, rfl⟩ | ⟨sp, rfl⟩
  · simp
  · have := sized_slice hsz ht hd Try.underlying22
    rw [show Try.prog.bytesOf 3 = 8 by kernel_rfl, List.length_map] at this
    have hr : reachBytes = 140737488351232 := rfl
    omega
theorem bools_sized {H : Type} {ts : List TypeId} {ds : List (DataW H)} (hsz : (DataW.weightsEach Try.prog ts ds).all (· ≤ reachBytes) = true) {j : Nat} {d : DataW H} {l : List Bool} (ht : ts[j]? = some 46) (hd : ds[j]? = some d)
    (h : BDat d l) : l.length ≤ 140737488355328 := by
  rcases h with ⟨_, rfl⟩ | ⟨sp, rfl⟩
  · simp
  · have := sized_slice hsz ht hd Try.underlying46
    rw [show Try.prog.bytesOf 4 = 1 by kernel_rfl, List.length_map] at this
    have hr : reachBytes = 140737488351232 := rfl
    omega
theorem i64_in {n : Int} (h : (Lit.int .i64 n).wf = true) : I64 n := i64_of h
end Go.Proofs.Yteadnjagandkfaa
