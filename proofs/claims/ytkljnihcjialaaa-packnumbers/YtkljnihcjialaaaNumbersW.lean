/- The walk of the law PackNumbers. -/
import Derived.Test.YtkljnihcjialaaaLiveW
set_option linter.unusedVariables false
namespace Go.Proofs.Ytkljnihcjialaaa
open Go.RowKit

set_option maxHeartbeats 1000000 in
theorem packNumbers_walk (n : Int) (hn : -9223372036854775808 ≤ n ∧ n ≤ 9223372036854775807) (w : World) :
    Calls Try.prog 3 #[.int .i64 n] w fun e w' => e = .returned (.bool true) ∧ Below w.heap.size w w' := by
  obtain ⟨s, k, hv⟩ : ∃ (s : ByteArray) (k : Int), numV n = .tuple #[.string s, .int .i64 k] := by
    unfold numV strV
    split <;> exact ⟨_, _, rfl⟩
  have c1 := fun w => num_all n hn w
  have c2 := fun w => refNum_all n hn w
  rw [hv] at c1 c2
  have C1 : Hid (∀ w, Calls Try.prog 9 #[.int .i64 n] w fun e w' => e = .returned (.tuple #[.string s, .int .i64 k]) ∧ Below w.heap.size w w') := c1
  have C2 : Hid (∀ w, Calls Try.prog 10 #[.int .i64 n] w fun e w' => e = .returned (.tuple #[.string s, .int .i64 k]) ∧ Below w.heap.size w w') := c2
  clear c1 c2 hv
  go_enter Try.func3, Try.ntmps3
  go_wp2_with fail
  refine (C1.out _).mono ?_
  rintro e w1 ⟨rfl, hb1⟩
  go_wp2_with fail
  refine (C1.out _).mono ?_
  rintro e w2 ⟨rfl, hb2⟩
  go_wp2_with fail
  refine (C2.out _).mono ?_
  rintro e w3 ⟨rfl, hb3⟩
  have hb : Below w.heap.size w w3 := by
    have h2 := hb1.trans (hb2.mono hb1.size)
    exact h2.trans (hb3.mono h2.size)
  go_wp2_with fail
  refine (live_any _).mono ?_
  rintro e w4 ⟨rfl, hb4⟩
  go_wp2
  go_ret
  exact ⟨rfl, hb.trans (hb4.mono hb.size)⟩
end Go.Proofs.Ytkljnihcjialaaa
