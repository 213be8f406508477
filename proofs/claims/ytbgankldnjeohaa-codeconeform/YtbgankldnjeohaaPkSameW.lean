/- Lists of texts in memory, more; the walk of the laws' own 'same'. -/
import Derived.Test.YtbgankldnjeohaaBase
set_option linter.unusedVariables false
set_option maxRecDepth 100000
namespace Go.Proofs.Ytbgankldnjeohaa.Pk
open Go.RowKit

theorem srow_cell {w : World} {ao : Option Addr} {n cap : Nat} {xs : List (List UInt8)} (h : SRow w (.slice ao n cap) xs) (j : Nat) (hj : j < xs.length) : ∃ g o, ao = some ⟨g, o, none⟩ ∧ w.cell? ⟨g, o + j, none⟩ = some (strV xs[j]) := by
  obtain ⟨ao', cap', hv, _, hrow⟩ := h
  obtain ⟨rfl, _, _⟩ : ao = ao' ∧ n = xs.length ∧ cap = cap' := by simpa using hv
  exact hrow j hj
theorem srow_drewN {w : World} {v : Value} {xs : List (List UInt8)} (h : SRow w v xs) (n : Nat) : SRow (w.drewN n) v xs := by
  obtain ⟨ao, cap, rfl, hc, hrow⟩ := h
  refine ⟨ao, cap, rfl, hc, fun j hj => ?_⟩
  obtain ⟨g, o, h1, h2⟩ := hrow j hj
  exact ⟨g, o, h1, by rw [← h2]; simp [World.cell?]⟩
theorem srow_set {w : World} {v : Value} {xs : List (List UInt8)} (h : SRow w v xs) (p : Addr) (u : Value) (hne : ∀ g, v.ownBlock = some g → g ≠ p.block) : SRow (w.setCell p u) v xs := by
  obtain ⟨ao, cap, rfl, hc, hrow⟩ := h
  refine ⟨ao, cap, rfl, hc, fun j hj => ?_⟩
  obtain ⟨g, o, rfl, h2⟩ := hrow j hj
  refine ⟨g, o, rfl, ?_⟩
  rw [World.cell?_setCell_other w _ _ _ (fun e => hne g rfl (by rw [e]))]
  exact h2
/-- What an owned row that is not empty looks like. -/
theorem own_shape {w : World} {B e n : Nat} {v : Value} {xs : List Value} (h : w.ownsRow B e 1 v n xs) (hn : 0 < n) : ∃ g cap, v = .slice (some ⟨g, 0, none⟩) n cap ∧ B ≤ g ∧ g < w.heap.size ∧ n ≤ cap ∧ cap ≤ maxLen ∧
    (∀ j, j < n → w.cell? ⟨g, j, none⟩ = xs[j]?) ∧ ∀ j, w.frozen? ⟨g, j, none⟩ = false := by
  rcases h.2 with ⟨rfl, h0⟩ | ⟨g, cap, cur, rfl, hb, hg, hnc, hcm, hcs, htake⟩
  · omega
  · exact ⟨g, cap, rfl, hb, (Array.getElem?_eq_some_iff.1 hg).1, hnc, hcm, fun j hj => h.cellAt j (by omega), fun j => h.frozenAt j⟩

theorem below_drew_of {B : Nat} {w w1 w' : World} (h : Below B w w1) {q : Nat} (e : w' = w1.drewN q) : Below B w w' := by rw [e]; exact below_drewN h q
end Go.Proofs.Ytbgankldnjeohaa.Pk