/- The walk of the law NameFolds. -/
import Derived.Test.YtaidoipjbgkgaaaDoorLive
import Derived.Test.YtaidoipjbgkgaaaDoorRefFold
set_option linter.unusedVariables false
namespace Go.Proofs.YtaidoipjbgkgaaaDoor
open Go.RowKit

theorem nameFolds_walk (s : ByteArray) (hs : s.size ≤ 140737488351232) (w : World) (hT : Tabs w) :
    Calls Tryd.prog 4 #[.string s] w fun e w' => e = .returned (.bool true) ∧ Below w.heap.size w w' := by
  have c1 := fun w => fold_any s hs w
  have c2 := fun w => refFold_any s hs w
  generalize NameMath.fold s.data.toList = f at *
  have C1 : Hid (∀ w, Calls Tryd.prog 12 #[.string s] w fun e w' => e = .returned (.string ⟨f.toArray⟩) ∧ Below w.heap.size w w') := c1
  have C2 : Hid (∀ w, Calls Tryd.prog 13 #[.string s] w fun e w' => e = .returned (.string ⟨f.toArray⟩) ∧ Below w.heap.size w w') := c2
  clear c1 c2
  go_enter Tryd.func4, Tryd.ntmps4
  go_wp2_with fail
  refine (C1.out _).mono ?_
  rintro e w1 ⟨rfl, hb1⟩
  go_wp2_with fail
  refine (C1.out _).mono ?_
  rintro e w2 ⟨rfl, hb2⟩
  go_wp2_with fail
  refine (C2.out _).mono ?_
  rintro e w3 ⟨rfl, hb3⟩
  have hb : Below w.heap.size w w3 := hb1.trans ((hb2.mono hb1.size).trans (hb3.mono (Nat.le_trans hb1.size hb2.size)))
  have hT3 := tabs_below hT hb
  go_wp2_with fail
  refine (live_any _ hT3).mono ?_
  rintro e w4 ⟨rfl, hb4⟩
  go_wp2_with fail
  go_ret
  exact ⟨rfl, hb.trans (hb4.mono hb.size)⟩
end Go.Proofs.YtaidoipjbgkgaaaDoor
