/- The walk of the law PackTexts. -/
import Derived.Test.YtkljnihcjialaaaRefTextW
set_option linter.unusedVariables false
namespace Go.Proofs.Ytkljnihcjialaaa
open Go.RowKit

set_option maxHeartbeats 1000000 in
theorem packTexts_walk (s : ByteArray) (hs : s.size ≤ 140737488355328) (w : World) :
    Calls Try.prog 4 #[.string s] w fun e w' => e = .returned (.bool true) ∧ Below w.heap.size w w' := by
  obtain ⟨t, k, hv⟩ : ∃ (t : ByteArray) (k : Int), txV s.data.toList = .tuple #[.string t, .int .i64 k] := by
    unfold txV strV
    split <;> exact ⟨_, _, rfl⟩
  have c1 := fun w => text_any s hs w
  have c2 := fun w => refText_any s hs w
  rw [hv] at c1 c2
  have C1 : Hid (∀ w, Calls Try.prog 12 #[.string s] w fun e w' => e = .returned (.tuple #[.string t, .int .i64 k]) ∧ Below w.heap.size w w') := c1
  have C2 : Hid (∀ w, Calls Try.prog 13 #[.string s] w fun e w' => e = .returned (.tuple #[.string t, .int .i64 k]) ∧ Below w.heap.size w w') := c2
  clear c1 c2 hv
  go_enter Try.func4, Try.ntmps4
  go_wp2_with fail
  refine (C1.out _).mono ?_
  rintro e w1 ⟨rfl, hb1⟩
  go_wp2_with fail
  refine (C2.out _).mono ?_
  rintro e w2 ⟨rfl, hb2⟩
  have hb : Below w.heap.size w w2 := hb1.trans (hb2.mono hb1.size)
  clear hb1 hb2
  go_wp2_with fail
  refine (live_any _).mono ?_
  rintro e w4 ⟨rfl, hb4⟩
  go_wp2
  go_ret
  exact ⟨rfl, hb.trans (hb4.mono hb.size)⟩
end Go.Proofs.Ytkljnihcjialaaa
