/- The walk of CostRooms. -/
import Derived.Test.YtaeakednekbekaaDoorLiveW
set_option linter.unusedVariables false
set_option maxRecDepth 100000
namespace Go.Proofs.YtaeakednekbekaaDoor
open Go.RowKit CheckMath
open Go.Proofs.YtaeakednekbekaaDoor.Nm

set_option maxHeartbeats 2000000 in
theorem costRooms_walk (n u : Int) (w : World) (hT : Tabs w) : Calls Tryd.prog 4 #[.int .i64 n, .int .i64 u] w fun e w' => e = .returned (.bool true) ∧ Below w.heap.size w w' := by
  have C1 : Hid (∀ wq, Calls Tryd.prog 14 #[.int .i64 n, .int .i64 u] wq fun e w' => e = .returned (.tuple #[.int .i64 (roomM n u).1, .int .i64 (roomM n u).2]) ∧ w' = wq) := fun wq => room_any n u wq
  have C2 : Hid (∀ wq, Calls Tryd.prog 15 #[.int .i64 n, .int .i64 u] wq fun e w' => e = .returned (.tuple #[.int .i64 (roomM n u).1, .int .i64 (roomM n u).2]) ∧ w' = wq) := fun wq => refRoom_any n u wq
  have C3 : Hid (Calls Tryd.prog 13 #[] w fun e w' => e = .returned (.bool true) ∧ Below w.heap.size w w') := live_any w hT
  clear hT
  generalize (roomM n u).1 = a at *
  generalize (roomM n u).2 = b at *
  go_enter Tryd.func4, Tryd.ntmps4
  go_wp2_with fail
  refine (C1.out _).mono ?_
  rintro e w2 ⟨rfl, hw2⟩
  rw [hw2]
  clear hw2 w2
  go_wp2_with fail
  refine (C2.out _).mono ?_
  rintro e w2 ⟨rfl, hw2⟩
  rw [hw2]
  clear hw2 w2
  go_wp2_with fail
  refine C3.out.mono ?_
  rintro e w3 ⟨rfl, hb3⟩
  go_wp2_with fail
  go_ret
  exact ⟨rfl, hb3⟩
end Go.Proofs.YtaeakednekbekaaDoor
