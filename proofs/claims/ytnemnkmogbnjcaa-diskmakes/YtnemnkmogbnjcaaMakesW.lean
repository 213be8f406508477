/- The walk of the law DiskMakes. -/
import Derived.Test.YtnemnkmogbnjcaaBegunW
set_option linter.unusedVariables false
namespace Go.Proofs.Ytnemnkmogbnjcaa
open Go.RowKit
open DiskMath

set_option maxHeartbeats 4000000 in
theorem diskMakes_bad (r : Int) (h : r < 1 ∨ 1048576 < r) (w : World) :
    Calls Try.prog 3 #[.int .i64 r] w fun e w' => e = .returned (.bool true) ∧ Below w.heap.size w w' := by
  have C1 : Hid (∀ w, Calls Try.prog 9 #[.int .i64 r] w fun e w' => e = .returned (.tuple #[.pointer none, .int .i64 1]) ∧ w' = w) := fun w => new_bad r h w
  have C2 : Hid (∀ w, Calls Try.prog 10 #[.int .i64 r] w fun e w' => e = .returned (.tuple #[.pointer none, .int .i64 1]) ∧ w' = w) := fun w => refNew_bad r h w
  have C3 : Hid (∀ w, Calls Try.prog 11 #[.int .i64 3] w fun e w' => ∃ b, e = .returned (.pointer (some ⟨b, 0, none⟩)) ∧ Below w.heap.size w w') := fun w =>
    (begun_any 3 (by decide) (by decide) w).mono fun e w' ⟨b, k1, _, _, _, k2⟩ => ⟨b, k1, k2⟩
  clear h
  go_enter Try.func3, Try.ntmps3
  go_wp2_with fail
  refine (C1.out _).mono ?_
  rintro e w1 ⟨rfl, hw⟩
  rw [hw]; clear hw w1
  go_wp2_with fail
  refine (C2.out _).mono ?_
  rintro e w1 ⟨rfl, hw⟩
  rw [hw]; clear hw w1
  go_wp2_with fail
  refine (C3.out _).mono ?_
  rintro e w1 ⟨b, rfl, hb⟩
  go_wp2
  go_ret
  exact ⟨rfl, hb⟩

set_option maxHeartbeats 4000000 in
theorem diskMakes_good (r : Nat) (h1 : 1 ≤ r) (h2 : r ≤ 1048576) (w : World) :
    Calls Try.prog 3 #[.int .i64 (r : Int)] w fun e w' => e = .returned (.bool true) ∧ Below w.heap.size w w' := by
  have C1 : Hid (∀ w, Calls Try.prog 9 #[.int .i64 (r : Int)] w fun e w' => e = .returned (.tuple #[.pointer (some ⟨w.heap.size, 0, none⟩), .int .i64 0]) ∧ PDisk w' w.heap.size (fun _ => .slice none 0 0) (new r) ∧ Below w.heap.size w w') := fun w => new_any r h1 h2 w
  have C2 : Hid (∀ w, Calls Try.prog 10 #[.int .i64 (r : Int)] w fun e w' => e = .returned (.tuple #[.pointer (some ⟨w.heap.size, 0, none⟩), .int .i64 0]) ∧ RDisk w' w.heap.size (new r) ∧ w.heap.size < w'.heap.size ∧ Below w.heap.size w w') := fun w => refNew_any r h1 h2 w
  have C3 : Hid (∀ w, Calls Try.prog 11 #[.int .i64 3] w fun e w' => ∃ b, e = .returned (.pointer (some ⟨b, 0, none⟩)) ∧ Below w.heap.size w w') := fun w =>
    (begun_any 3 (by decide) (by decide) w).mono fun e w' ⟨b, k1, _, _, _, k2⟩ => ⟨b, k1, k2⟩
  have hok := ok_new r h1 h2
  go_enter Try.func3, Try.ntmps3
  go_wp2_with fail
  refine (C1.out _).mono ?_
  rintro e w1 ⟨rfl, p1, b1⟩
  have P1 : Hid (PDisk w1 w.heap.size (fun _ => .slice none 0 0) (new r)) := p1
  clear p1
  go_wp2_with fail
  refine (C2.out _).mono ?_
  rintro e w2 ⟨rfl, p2, _, b2⟩
  have P2 : Hid (RDisk w2 w1.heap.size (new r)) := p2
  have P1' : Hid (PDisk w2 w.heap.size (fun _ => .slice none 0 0) (new r)) := pdisk_below P1.out b2
  have b02 : Below w.heap.size w w2 := b1.trans (b2.mono b1.size)
  clear p2 P1 b1 b2
  go_wp2_with fail
  refine (C3.out _).mono ?_
  rintro e w3 ⟨b, rfl, b3⟩
  have b03 : Below w.heap.size w w3 := b02.trans (b3.mono b02.size)
  have CS : Hid (Calls Try.prog 12 #[.agg #[.pointer (some ⟨w.heap.size, 0, none⟩), .pointer (some ⟨w1.heap.size, 0, none⟩)]] w3 fun e w' => e = .returned (.bool true) ∧ Below w3.heap.size w3 w') :=
    same_true w3 w.heap.size w1.heap.size _ (new r) (pdisk_below P1'.out b3) (rdisk_below P2.out b3) hok
  clear P1' P2 b02 b3 hok
  go_wp2_with fail
  refine CS.out.mono ?_
  rintro e w4 ⟨rfl, b4⟩
  go_wp2
  go_ret
  exact ⟨rfl, b03.trans (b4.mono b03.size)⟩
theorem diskMakes_walk (r : Int) (w : World) : Calls Try.prog 3 #[.int .i64 r] w fun e w' => e = .returned (.bool true) ∧ Below w.heap.size w w' := by
  by_cases h : r < 1 ∨ 1048576 < r
  · exact diskMakes_bad r h w
  · obtain ⟨n, rfl⟩ := Int.eq_ofNat_of_zero_le (show 0 ≤ r by omega)
    exact diskMakes_good n (by omega) (by omega) w
end Go.Proofs.Ytnemnkmogbnjcaa
