/- The walk of the laws' own 'live'. -/
import Derived.Test.YtpohggljdgjdfaaDoorScanW
import Derived.Test.YtpohggljdgjdfaaDoorSameW
set_option linter.unusedVariables false
namespace Go.Proofs.YtpohggljdgjdfaaDoor
open Go.RowKit
open FrameMath (first scan used wrap)

theorem wrap_nil : wrap [] = [167, 0, 0, 0, 18, 217, 65, 255] := by decide +kernel
theorem scan_live : scan [167, 0, 0, 0, 18, 217, 65, 255, 120] = [[]] := by
  have h := FrameMath.scan_wraps [[]] [120] (by intro r hr; simp at hr; subst hr; decide)
  rw [FrameMath.wraps_one, wrap_nil, FrameMath.scan_none [120] (FrameMath.first_none_short _ (by decide))] at h
  exact h

set_option maxHeartbeats 1000000 in
theorem live_any (w : World) (hT : Tab w) :
    Calls Tryd.prog 11 #[] w fun e w' => e = .returned (.bool true) ∧ Below w.heap.size w w' := by
  have c1 := fun w hT => wrap_any ⟨#[]⟩ (by decide) w hT
  rw [show (ByteArray.mk #[]).data.toList = [] from rfl, wrap_nil] at c1
  have C1 : Hid (∀ w, Tab w → Calls Tryd.prog 9 #[.string ⟨#[]⟩] w fun e w' => e = .returned (.tuple #[.string ⟨#[167, 0, 0, 0, 18, 217, 65, 255]⟩, .int .i64 0]) ∧ Below w.heap.size w w') := c1
  have c2 := fun w hT => scan_any ⟨#[167, 0, 0, 0, 18, 217, 65, 255, 120]⟩ (by decide) w hT
  have C2 : Hid (∀ w, Tab w → Calls Tryd.prog 12 #[.string ⟨#[167, 0, 0, 0, 18, 217, 65, 255, 120]⟩] w fun e w' => ∃ g cap, e = .returned (.tuple #[.slice (some ⟨g, 0, none⟩) 1 cap, .int .i64 8]) ∧ w'.cell? ⟨g, 0, none⟩ = some (.string ⟨#[]⟩) ∧ Below w.heap.size w w') := by
    intro w hT
    refine (c2 w hT).mono ?_
    rintro e w' ⟨v, rfl, hown, hb⟩
    rw [show (ByteArray.mk #[167, 0, 0, 0, 18, 217, 65, 255, 120]).data.toList = [167, 0, 0, 0, 18, 217, 65, 255, 120] from rfl, scan_live] at *
    obtain ⟨g, cap, rfl, _, _, _, _, hc, _⟩ := own_shape hown (by decide)
    refine ⟨g, cap, rfl, ?_, hb⟩
    rw [hc 0 (by decide)]
    rfl
  clear c1 c2
  go_enter Tryd.func11, Tryd.ntmps11
  go_wp2_with fail
  refine (C1.out _ hT).mono ?_
  rintro e w1 ⟨rfl, hb1⟩
  go_wp2_with fail
  refine (C2.out _ (tab_below hT hb1)).mono ?_
  rintro e w2 ⟨g, cap, rfl, hc, hb2⟩
  go_wp2
  go_ret
  exact ⟨rfl, hb1.trans (hb2.mono hb1.size)⟩
end Go.Proofs.YtpohggljdgjdfaaDoor
