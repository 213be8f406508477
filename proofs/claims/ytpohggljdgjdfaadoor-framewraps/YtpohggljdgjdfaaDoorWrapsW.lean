/- The walk of the law FrameWraps. -/
import Derived.Test.YtpohggljdgjdfaaDoorLiveW
import Derived.Test.YtpohggljdgjdfaaDoorRefWrapW
set_option linter.unusedVariables false
namespace Go.Proofs.YtpohggljdgjdfaaDoor
open Go.RowKit
open FrameMath (first scan used wrap)

theorem wraps_all (s : ByteArray) (hs : s.size ≤ 140737488351232) : ∃ (t : ByteArray) (k : Int), (t.size ≤ 200008) ∧
    (∀ w, Tab w → Calls Tryd.prog 9 #[.string s] w fun e w' => e = .returned (.tuple #[.string t, .int .i64 k]) ∧ Below w.heap.size w w') ∧
    (∀ w, Calls Tryd.prog 10 #[.string s] w fun e w' => e = .returned (.tuple #[.string t, .int .i64 k]) ∧ Below w.heap.size w w') := by
  by_cases h : s.size ≤ 200000
  · exact ⟨_, 0, by rw [strV_size, FrameMath.wrap_length, size_data]; omega, fun w hT => wrap_any s h w hT, fun w => refWrap_any s h w⟩
  · exact ⟨⟨#[]⟩, 2, by decide, fun w hT => (wrap_long s (by omega) w).mono fun e w' ⟨h1, h2⟩ => ⟨h1, h2 ▸ Below.refl _ _⟩, fun w => (refWrap_long s (by omega) hs w).mono fun e w' ⟨h1, h2⟩ => ⟨h1, h2 ▸ Below.refl _ _⟩⟩

set_option maxHeartbeats 1000000 in
theorem frameWraps_walk (s : ByteArray) (hs : s.size ≤ 140737488351232) (w : World) (hT : Tab w) :
    Calls Tryd.prog 3 #[.string s] w fun e w' => e = .returned (.bool true) ∧ Below w.heap.size w w' := by
  obtain ⟨t, k, ht, c1, c2⟩ := wraps_all s hs
  have C1 : Hid (∀ w, Tab w → Calls Tryd.prog 9 #[.string s] w fun e w' => e = .returned (.tuple #[.string t, .int .i64 k]) ∧ Below w.heap.size w w') := c1
  have C2 : Hid (∀ w, Calls Tryd.prog 10 #[.string s] w fun e w' => e = .returned (.tuple #[.string t, .int .i64 k]) ∧ Below w.heap.size w w') := c2
  clear c1 c2
  go_enter Tryd.func3, Tryd.ntmps3
  go_wp2_with fail
  refine (C1.out _ hT).mono ?_
  rintro e w1 ⟨rfl, hb1⟩
  go_wp2_with fail
  refine (C1.out _ (tab_below hT hb1)).mono ?_
  rintro e w2 ⟨rfl, hb2⟩
  have hb02 : Below w.heap.size w w2 := hb1.trans (hb2.mono hb1.size)
  clear hb1 hb2
  go_wp2_with fail
  refine (C2.out _).mono ?_
  rintro e w3 ⟨rfl, hb3⟩
  have hb03 : Below w.heap.size w w3 := hb02.trans (hb3.mono hb02.size)
  clear hb02 hb3
  go_wp2_with fail
  refine (live_any _ (tab_below hT hb03)).mono ?_
  rintro e w4 ⟨rfl, hb4⟩
  go_wp2_with fail
  go_ret
  exact ⟨rfl, hb03.trans (hb4.mono hb03.size)⟩
end Go.Proofs.YtpohggljdgjdfaaDoor
