/- The walk of the laws' own 'live'. -/
import Derived.Test.YtbgankldnjeohaaPkTakeW
set_option linter.unusedVariables false
set_option maxRecDepth 100000
namespace Go.Proofs.Ytbgankldnjeohaa.Pk
open Go.RowKit

theorem num300 : strV (PackMath.num 300) = .string ⟨#[172, 2]⟩ := by
  rw [PackMath.num_ge 300 (by decide), PackMath.num_lt _ (by decide)]; rfl
theorem live300 : tnV ((⟨#[120, 172, 2]⟩ : ByteArray).data.toList.drop 1) 1 = .tuple #[.int .i64 300, .int .i64 3, .int .i64 0] := by
  have : PackMath.tn ((⟨#[120, 172, 2]⟩ : ByteArray).data.toList.drop 1) = (300, 2, 0) := by decide
  rw [tnV_of this]; rfl
/-- What Num answers, of any number. -/
def numV (n : Int) : Value := if n < 0 ∨ 1125899906842624 < n then .tuple #[.string ⟨#[]⟩, .int .i64 30] else .tuple #[strV (PackMath.num n.toNat), .int .i64 0]
theorem num_all (n : Int) (hn : -9223372036854775808 ≤ n ∧ n ≤ 9223372036854775807) (w : World) :
    Calls Try.prog 70 #[.int .i64 n] w fun e w' => e = .returned (numV n) ∧ Below w.heap.size w w' := by
  unfold numV
  by_cases h : n < 0 ∨ 1125899906842624 < n
  · rw [if_pos h]
    exact (num_neg n h hn w).mono fun e w' ⟨h1, h2⟩ => ⟨h1, h2 ▸ Below.refl _ _⟩
  · rw [if_neg h]
    have := num_any n.toNat (by omega) w
    rwa [show ((n.toNat : Nat) : Int) = n by omega] at this
end Go.Proofs.Ytbgankldnjeohaa.Pk