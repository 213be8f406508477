/- The walks of package name's small functions, and of the document's. -/
import Derived.Test.YtbgankldnjeohaaProg
import Derived.Test.YtbgankldnjeohaaNmMathB
import Derived.WalkKit
import Derived.WalkSpells
import Derived.WalkLawsBesides
import Derived.Deep.Light
set_option maxRecDepth 100000
namespace Go.Proofs.Ytbgankldnjeohaa.Nm
open Go.RowKit

theorem ret_bool {a b : Bool} (h : a = b) : Ending.returned (.bool a) = .returned (.bool b) := by rw [h]
theorem ret_int {k : IntKind} {a b : Int} (h : a = b) : Ending.returned (.int k a) = .returned (.int k b) := by rw [h]

set_option maxHeartbeats 1000000 in
theorem smallLetter_any (r : Nat) (hr : r ≤ 1114111) (w : World) :
    Calls Try.prog 76 #[.int .i32 (r : Int)] w fun e w' => e = .returned (.bool (NameMath.small r)) ∧ w' = w := by
  go_enter Try.func76, Try.ntmps76
  go_wp2
  all_goals go_ret
  all_goals go_light
  all_goals refine ⟨ret_bool ?_, rfl⟩
  all_goals try simp only [beq_iff_eq, beq_eq_false_iff_ne, ne_eq] at *
  all_goals unfold NameMath.small
  all_goals rw [Bool.eq_iff_iff]
  all_goals first | (simp; omega) | (simp; done)

set_option maxHeartbeats 1000000 in
theorem digitOrHyphen_any (r : Nat) (hr : r ≤ 1114111) (w : World) :
    Calls Try.prog 77 #[.int .i32 (r : Int)] w fun e w' => e = .returned (.bool (NameMath.dig r)) ∧ w' = w := by
  go_enter Try.func77, Try.ntmps77
  go_wp2
  all_goals go_ret
  all_goals go_light
  all_goals refine ⟨ret_bool ?_, rfl⟩
  all_goals try simp only [beq_iff_eq, beq_eq_false_iff_ne, ne_eq] at *
  all_goals unfold NameMath.dig
  all_goals rw [Bool.eq_iff_iff]
  all_goals first | (simp; omega) | (simp; done)

set_option maxHeartbeats 1000000 in
theorem letter_any (r : Nat) (hr : r ≤ 1114111) (w : World) :
    Calls Try.prog 36 #[.int .i64 (r : Int)] w fun e w' => e = .returned (.bool (NameMath.small r)) ∧ w' = w := by
  go_enter Try.func36, Try.ntmps36
  go_wp2
  all_goals go_ret
  all_goals go_light
  all_goals refine ⟨ret_bool ?_, rfl⟩
  all_goals try simp only [beq_iff_eq, beq_eq_false_iff_ne, ne_eq] at *
  all_goals unfold NameMath.small
  all_goals rw [Bool.eq_iff_iff]
  all_goals first | (simp; omega) | (simp; done)
end Go.Proofs.Ytbgankldnjeohaa.Nm