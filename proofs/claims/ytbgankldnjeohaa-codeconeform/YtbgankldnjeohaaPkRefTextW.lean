/- The walk of the document's Text. -/
import Derived.Test.YtbgankldnjeohaaPkTextW
import Derived.Test.YtbgankldnjeohaaPkRefNumW
set_option linter.unusedVariables false
set_option maxRecDepth 100000
namespace Go.Proofs.Ytbgankldnjeohaa.Pk
open Go.RowKit

set_option maxHeartbeats 1000000 in
theorem refText_any (s : ByteArray) (hs : s.size ≤ 140737488355328) (w : World) :
    Calls Try.prog 23 #[.string s] w fun e w' => e = .returned (txV s.data.toList) ∧ Below w.heap.size w w' := by
  unfold txV
  rw [size_data]
  by_cases h : 2000 < s.size
  · rw [if_pos h]
    have q : (2000 : Int) < (s.size : Int) := by omega
    clear h
    go_enter Try.func23, Try.ntmps23
    go_wp2
    go_ret2
    exact ⟨rfl, Below.refl _ _⟩
  · rw [if_neg h]
    have q : ¬ (2000 : Int) < (s.size : Int) := by omega
    have hn := PackMath.num_len8 s.size (by omega)
    rw [← strV_size] at hn
    have HE : Hid (strV (PackMath.txt s.data.toList) = .string (ByteArray.mk (PackMath.num s.size).toArray ++ s)) := by
      show _ = _
      rw [← strV_data]
      simp [ByteArray.data_append, PackMath.txt]
    have C1 : Hid (∀ w, Calls Try.prog 31 #[.int .i64 (s.size : Int)] w fun e w' => e = .returned (.tuple #[.string ⟨(PackMath.num s.size).toArray⟩, .int .i64 0]) ∧ Below w.heap.size w w') := fun w => refNum_any s.size (by omega) w
    generalize ByteArray.mk (PackMath.num s.size).toArray = x at *
    clear h
    go_enter Try.func23, Try.ntmps23
    go_wp2_with fail
    refine (C1.out _).mono ?_
    rintro e w1 ⟨rfl, hb1⟩
    go_wp2
    go_ret2
    rw [HE.out]
    exact ⟨rfl, hb1⟩
end Go.Proofs.Ytbgankldnjeohaa.Pk