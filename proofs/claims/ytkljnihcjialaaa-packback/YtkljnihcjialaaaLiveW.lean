/- The walk of the laws' own 'live'. -/
import Derived.Test.YtkljnihcjialaaaTakeW
set_option linter.unusedVariables false
namespace Go.Proofs.Ytkljnihcjialaaa
open Go.RowKit

theorem num300 : strV (PackMath.num 300) = .string ⟨#[172, 2]⟩ := by
  rw [PackMath.num_ge 300 (by decide), PackMath.num_lt _ (by decide)]; rfl
theorem live300 : tnV ((⟨#[120, 172, 2]⟩ : ByteArray).data.toList.drop 1) 1 = .tuple #[.int .i64 300, .int .i64 3, .int .i64 0] := by
  have : PackMath.tn ((⟨#[120, 172, 2]⟩ : ByteArray).data.toList.drop 1) = (300, 2, 0) := by decide
  rw [tnV_of this]; rfl
set_option maxHeartbeats 1000000 in
theorem live_any (w : World) :
    Calls Try.prog 11 #[] w fun e w' => e = .returned (.bool true) ∧ Below w.heap.size w w' := by
  have c1 := fun w => num_any 300 (by decide) w
  have c2 := fun w => takeNum_any ⟨#[120, 172, 2]⟩ 1 (by decide) (by decide) w
  rw [num300] at c1
  rw [live300] at c2
  have C1 : Hid (∀ w, Calls Try.prog 9 #[.int .i64 300] w fun e w' => e = .returned (.tuple #[.string ⟨#[172, 2]⟩, .int .i64 0]) ∧ Below w.heap.size w w') := c1
  have C2 : Hid (∀ w, Calls Try.prog 18 #[.string ⟨#[120, 172, 2]⟩, .int .i64 1] w fun e w' => e = .returned (.tuple #[.int .i64 300, .int .i64 3, .int .i64 0]) ∧ w' = w) := c2
  clear c1 c2
  go_enter Try.func11, Try.ntmps11
  go_wp2_with fail
  refine (C1.out _).mono ?_
  rintro e w1 ⟨rfl, hb1⟩
  go_wp2_with fail
  refine (C2.out _).mono ?_
  rintro e w2 ⟨rfl, hw2⟩
  subst hw2
  go_wp2
  go_ret
  exact ⟨rfl, hb1⟩

/-- What Num answers, of any number. -/
def numV (n : Int) : Value := if n < 0 ∨ 1125899906842624 < n then .tuple #[.string ⟨#[]⟩, .int .i64 30] else .tuple #[strV (PackMath.num n.toNat), .int .i64 0]
theorem num_all (n : Int) (hn : -9223372036854775808 ≤ n ∧ n ≤ 9223372036854775807) (w : World) :
    Calls Try.prog 9 #[.int .i64 n] w fun e w' => e = .returned (numV n) ∧ Below w.heap.size w w' := by
  unfold numV
  by_cases h : n < 0 ∨ 1125899906842624 < n
  · rw [if_pos h]
    exact (num_neg n h hn w).mono fun e w' ⟨h1, h2⟩ => ⟨h1, h2 ▸ Below.refl _ _⟩
  · rw [if_neg h]
    have := num_any n.toNat (by omega) w
    rwa [show ((n.toNat : Nat) : Int) = n by omega] at this
end Go.Proofs.Ytkljnihcjialaaa
