/- The walks of package name's small functions, and of the document's. -/
import Derived.Test.YtaidoipjbgkgaabDoorProg
import Derived.Test.YtaidoipjbgkgaabDoorMathB
import Derived.WalkKit
import Derived.WalkSpells
import Derived.WalkLawsBesides
import Derived.Deep.Light
namespace Go.Proofs.YtaidoipjbgkgaabDoor
open Go.RowKit

theorem ret_bool {a b : Bool} (h : a = b) : Ending.returned (.bool a) = .returned (.bool b) := by rw [h]
theorem ret_int {k : IntKind} {a b : Int} (h : a = b) : Ending.returned (.int k a) = .returned (.int k b) := by rw [h]

set_option maxHeartbeats 1000000 in
theorem smallLetter_any (r : Nat) (hr : r ≤ 1114111) (w : World) :
    Calls Tryd.prog 21 #[.int .i32 (r : Int)] w fun e w' => e = .returned (.bool (NameMath.small r)) ∧ w' = w := by
  go_enter Tryd.func21, Tryd.ntmps21
  go_wp2
  all_goals go_ret
  all_goals go_light
  all_goals refine ⟨ret_bool ?_, rfl⟩
  all_goals try simp only [beq_iff_eq, beq_eq_false_iff_ne, ne_eq] at *
  all_goals unfold NameMath.small
  all_goals rw [Bool.eq_iff_iff]
  all_goals first | (simp; omega) | (simp; done)

set_option maxHeartbeats 1000000 in
theorem digitOrHyphen_any (r : Nat) (hr : r ≤ 1114111) (w : World) :
    Calls Tryd.prog 22 #[.int .i32 (r : Int)] w fun e w' => e = .returned (.bool (NameMath.dig r)) ∧ w' = w := by
  go_enter Tryd.func22, Tryd.ntmps22
  go_wp2
  all_goals go_ret
  all_goals go_light
  all_goals refine ⟨ret_bool ?_, rfl⟩
  all_goals try simp only [beq_iff_eq, beq_eq_false_iff_ne, ne_eq] at *
  all_goals unfold NameMath.dig
  all_goals rw [Bool.eq_iff_iff]
  all_goals first | (simp; omega) | (simp; done)

set_option maxHeartbeats 1000000 in
theorem greatLetter_any (r : Nat) (hr : r ≤ 1114111) (w : World) :
    Calls Tryd.prog 30 #[.int .i32 (r : Int)] w fun e w' => e = .returned (.bool (NameMath.great r)) ∧ w' = w := by
  go_enter Tryd.func30, Tryd.ntmps30
  go_wp2
  all_goals go_ret
  all_goals go_light
  all_goals refine ⟨ret_bool ?_, rfl⟩
  all_goals try simp only [beq_iff_eq, beq_eq_false_iff_ne, ne_eq] at *
  all_goals unfold NameMath.great
  all_goals rw [Bool.eq_iff_iff]
  all_goals first | (simp; omega) | (simp; done)

set_option maxHeartbeats 1000000 in
theorem blank_any (r : Nat) (hr : r ≤ 1114111) (w : World) :
    Calls Tryd.prog 24 #[.int .i32 (r : Int)] w fun e w' => e = .returned (.bool (NameMath.blank r)) ∧ w' = w := by
  go_enter Tryd.func24, Tryd.ntmps24
  go_wp2
  all_goals go_ret
  all_goals go_light
  all_goals refine ⟨ret_bool ?_, rfl⟩
  all_goals try simp only [beq_iff_eq, beq_eq_false_iff_ne, ne_eq] at *
  all_goals unfold NameMath.blank
  all_goals rw [Bool.eq_iff_iff]
  all_goals first | (simp; omega) | (simp; done)
end Go.Proofs.YtaidoipjbgkgaabDoor
