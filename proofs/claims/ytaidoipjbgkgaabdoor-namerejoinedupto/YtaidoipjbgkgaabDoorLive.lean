/- The walk of the laws' own 'live'. -/
import Derived.Test.YtaidoipjbgkgaabDoorFoldW
set_option linter.unusedVariables false
namespace Go.Proofs.YtaidoipjbgkgaabDoor
open Go.RowKit

theorem v_words : NameMath.words [32, 100, 111, 32, 32, 114, 111, 111, 109] = [[100, 111], [114, 111, 111, 109]] := by decide +kernel
theorem v_is : NameMath.isGo (NameMath.runes [122, 117, 103, 45, 49]) 0 = true := by decide +kernel
theorem v_fold : NameMath.fold [65, 98] = [97, 98] := by decide +kernel
theorem v_cmp : NameMath.cmp (NameMath.runes [97]) (NameMath.runes [97, 98]) = -1 := by decide +kernel
theorem v_own : NameMath.own 0 (NameMath.runes [114, 111, 111, 109]) = 1 := by decide +kernel

theorem tabs_below {w w' : World} (h : Tabs w) (hb : Below w.heap.size w w') : Tabs w' := Utf8Tabs_below h hb

/-- What an owned row that is not empty looks like. -/
theorem own_shape {w : World} {B e n : Nat} {v : Value} {xs : List Value} (h : w.ownsRow B e 1 v n xs) (hn : 0 < n) : ∃ g cap, v = .slice (some ⟨g, 0, none⟩) n cap ∧ B ≤ g ∧ g < w.heap.size ∧ n ≤ cap ∧ cap ≤ maxLen ∧
    (∀ j, j < n → w.cell? ⟨g, j, none⟩ = xs[j]?) ∧ (∀ j, w.frozen? ⟨g, j, none⟩ = false) := by
  rcases h.2 with ⟨rfl, h0⟩ | ⟨g, cap, cur, rfl, hb, hg, hnc, hcm, hcs, htake⟩
  · omega
  · exact ⟨g, cap, rfl, hb, (Array.getElem?_eq_some_iff.1 hg).1, hnc, hcm, fun j hj => h.cellAt j (by omega), fun j => h.frozenAt j⟩

set_option maxHeartbeats 1000000 in
theorem live_any (w : World) (hT : Tabs w) :
    Calls Tryd.prog 11 #[] w fun e w' => e = .returned (.bool true) ∧ Below w.heap.size w w' := by
  go_enter Tryd.func11, Tryd.ntmps11
  go_wp2_with fail
  refine (words_any _ (by decide) w).mono ?_
  rintro e w1 ⟨v, rfl, hown, hb1⟩
  have hown' : w1.ownsRow (w.heap.size + 1) 9 1 v 2 [strV [100, 111], strV [114, 111, 111, 109]] := by
    have h := hown
    rw [v_words] at h
    exact h
  clear hown
  obtain ⟨g, cap, rfl, hbg, hgl, hnc, hcm, hcell, hfro⟩ := own_shape hown' (by decide)
  have c0 := hcell 0 (by decide)
  have c1 := hcell 1 (by decide)
  have C0 : Hid (w1.cell? ⟨g, 0, none⟩ = some (.string ⟨#[100, 111]⟩)) := c0
  have C1 : Hid (w1.cell? ⟨g, 1, none⟩ = some (.string ⟨#[114, 111, 111, 109]⟩)) := c1
  clear c0 c1 hcell hfro hown'
  have hT1 := tabs_below hT hb1
  go_wp2_with fail
  refine (is_any _ w1).mono ?_
  rintro e w2 ⟨rfl, hb2⟩
  rw [v_is]
  have hT2 := tabs_below hT1 hb2
  go_wp2_with fail
  refine (fold_any _ (by decide) w2).mono ?_
  rintro e w3 ⟨rfl, hb3⟩
  rw [v_fold]
  have hT3 := tabs_below hT2 hb3
  unfold strV
  go_wp2_with fail
  refine (compare_any _ _ (by decide) w3 hT3).mono ?_
  rintro e w4 ⟨rfl, hb4⟩
  rw [v_cmp]
  go_wp2_with fail
  refine (owner_any _ w4).mono ?_
  rintro e w5 ⟨rfl, hb5⟩
  rw [v_own]
  have hb15 : Below w1.heap.size w1 w5 := hb2.trans ((hb3.mono hb2.size).trans ((hb4.mono (Nat.le_trans hb2.size hb3.size)).trans (hb5.mono (Nat.le_trans hb2.size (Nat.le_trans hb3.size hb4.size)))))
  have d0 : w5.cell? ⟨g, 0, none⟩ = some (.string ⟨#[100, 111]⟩) := (hb15.cell (p := ⟨g, 0, none⟩) hgl).trans C0.out
  have d1 : w5.cell? ⟨g, 1, none⟩ = some (.string ⟨#[114, 111, 111, 109]⟩) := (hb15.cell (p := ⟨g, 1, none⟩) hgl).trans C1.out
  have HB : Hid _ := hb15
  clear hb15
  go_wp2
  go_ret
  exact ⟨rfl, hb1.trans (HB.out.mono hb1.size)⟩
end Go.Proofs.YtaidoipjbgkgaabDoor
