/- Lists of records, of which those that are too long for a frame are left out. -/
import Derived.Test.YtpohggljdgjdfaaDoorStandsW
set_option linter.unusedVariables false
namespace Go.Proofs.YtpohggljdgjdfaaDoor
open Go.RowKit
open FrameMath (first scan used wrap wraps fits)

/-- Those that fit into a frame. -/
def good (xs : List (List UInt8)) : List (List UInt8) := xs.filter fun r => decide (r.length ≤ 200000)
theorem good_fits (xs : List (List UInt8)) : fits (good xs) := fun r hr => by
  have := (List.mem_filter.1 hr).2
  simpa using this
theorem good_yes (xs : List (List UInt8)) (k : Nat) (h : k < xs.length) (hr : xs[k].length ≤ 200000) : good (xs.take (k + 1)) = good (xs.take k) ++ [xs[k]] := by
  unfold good
  rw [List.take_succ_eq_append_getElem h, List.filter_append]
  simp [hr]
theorem good_no (xs : List (List UInt8)) (k : Nat) (h : k < xs.length) (hr : ¬ xs[k].length ≤ 200000) : good (xs.take (k + 1)) = good (xs.take k) := by
  unfold good
  rw [List.take_succ_eq_append_getElem h, List.filter_append]
  simp [hr]
def bulk : List (List UInt8) → Nat
  | [] => 0
  | r :: rs => r.length + 1 + bulk rs
theorem good_used : ∀ xs : List (List UInt8), used (good xs) ≤ 8 * bulk xs
  | [] => Nat.le_refl _
  | r :: rs => by
    have ih := good_used rs
    by_cases hr : r.length ≤ 200000
    · have e : good (r :: rs) = r :: good rs := by unfold good; simp [hr]
      rw [e]
      show r.length + 8 + used (good rs) ≤ 8 * (r.length + 1 + bulk rs)
      omega
    · have e : good (r :: rs) = good rs := by unfold good; simp [hr]
      rw [e]
      show _ ≤ 8 * (r.length + 1 + bulk rs)
      omega
theorem bulk_take : ∀ (xs : List (List UInt8)) (k : Nat), bulk (xs.take k) ≤ bulk xs
  | [], k => by simp [bulk]
  | r :: rs, 0 => Nat.zero_le _
  | r :: rs, k + 1 => by
    have ih := bulk_take rs k
    show r.length + 1 + bulk (rs.take k) ≤ r.length + 1 + bulk rs
    omega
theorem bulk_len : ∀ xs : List (List UInt8), xs.length ≤ bulk xs
  | [] => Nat.le_refl _
  | r :: rs => by
    have ih := bulk_len rs
    show rs.length + 1 ≤ r.length + 1 + bulk rs
    omega
theorem bulk_mem : ∀ (xs : List (List UInt8)) (k : Nat) (h : k < xs.length), xs[k].length ≤ bulk xs
  | r :: rs, 0, _ => by show r.length ≤ r.length + 1 + bulk rs; omega
  | r :: rs, k + 1, h => by
    have h2 : k < rs.length := by simpa using h
    have ih := bulk_mem rs k h2
    show rs[k].length ≤ r.length + 1 + bulk rs
    omega
theorem good_le (xs : List (List UInt8)) (k : Nat) : used (good (xs.take k)) ≤ 8 * bulk xs := by
  have h1 := good_used (xs.take k)
  have h2 := bulk_take xs k
  omega
theorem good_count (xs : List (List UInt8)) (k : Nat) : (good (xs.take k)).length ≤ bulk xs := by
  have h1 := bulk_len (xs.take k)
  have h2 := bulk_take xs k
  have h3 : (good (xs.take k)).length ≤ (xs.take k).length := List.length_filter_le _ _
  omega
/-- A row's end, from the place n on. -/
theorem srow_drop {w : World} {g cap : Nat} {xs : List (List UInt8)} (n m : Nat) (hn : n + m = xs.length) (h : SRow w (.slice (some ⟨g, 0, none⟩) xs.length cap) xs) : SRow w (.slice (some ⟨g, n, none⟩) m (cap - n)) (xs.drop n) := by
  have hl : (xs.drop n).length = m := by rw [List.length_drop]; omega
  obtain ⟨ao', cap', hv, hc, _⟩ := h
  obtain ⟨rfl, rfl⟩ : some ⟨g, 0, none⟩ = ao' ∧ cap = cap' := by simpa using hv
  rename_i hrow
  refine ⟨some ⟨g, n, none⟩, cap - n, by rw [hl], ⟨by rw [hl]; omega, fun h => by cases h⟩, fun j hj => ?_⟩
  rw [hl] at hj
  obtain ⟨g', o, h1, h2⟩ := hrow (n + j) (by omega)
  obtain ⟨rfl, rfl⟩ : g = g' ∧ 0 = o := by simpa using h1
  refine ⟨g, n, rfl, ?_⟩
  rw [Nat.zero_add] at h2
  rw [h2]
  simp
/-- A row's beginning. -/
theorem srow_take {w : World} {ao : Option Addr} {cap : Nat} {xs : List (List UInt8)} (n : Nat) (hn : n ≤ xs.length) (h : SRow w (.slice ao xs.length cap) xs) : SRow w (.slice ao n cap) (xs.take n) := by
  have hl : (xs.take n).length = n := by rw [List.length_take]; omega
  obtain ⟨ao', cap', hv, hc, hrow⟩ := h
  obtain ⟨rfl, rfl⟩ : ao = ao' ∧ cap = cap' := by simpa using hv
  refine ⟨ao, cap, by rw [hl], ⟨by rw [hl]; omega, hc.2⟩, fun j hj => ?_⟩
  rw [hl] at hj
  obtain ⟨g', o, h1, h2⟩ := hrow j (by omega)
  refine ⟨g', o, h1, ?_⟩
  rw [h2]
  simp
/-- A row that a call owns: nothing, or a block's first cells. -/
theorem own_some {w : World} {B e n : Nat} {v : Value} {xs : List Value} (h : w.ownsRow B e 1 v n xs) : (v = .slice none 0 0 ∧ n = 0) ∨ ∃ g cap, v = .slice (some ⟨g, 0, none⟩) n cap ∧ n ≤ cap ∧ cap ≤ maxLen := by
  rcases h.2 with ⟨rfl, h0⟩ | ⟨g, cap, cur, rfl, hb, hg, hnc, hcm, hcs, htake⟩
  · exact Or.inl ⟨rfl, by omega⟩
  · exact Or.inr ⟨g, cap, rfl, hnc, hcm⟩
end Go.Proofs.YtpohggljdgjdfaaDoor
