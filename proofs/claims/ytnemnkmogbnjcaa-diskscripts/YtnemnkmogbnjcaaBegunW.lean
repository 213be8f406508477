/- The walk of the laws' own 'begun': a disk in which something is safe and something is not. -/
import Derived.Test.YtnemnkmogbnjcaaSameW
import Derived.Test.YtnemnkmogbnjcaaStepW
set_option linter.unusedVariables false
namespace Go.Proofs.Ytnemnkmogbnjcaa
open Go.RowKit
open DiskMath

/-- The disk that begun makes. -/
def bd (r : Nat) : DS := app (syn (app (new r) 3 [97, 98]) 3) 3 [99]
theorem bd_F (r : Nat) : (bd r).F 3 = [97, 98, 99] := rfl
theorem bd_S (r : Nat) : (bd r).S 3 = 2 := rfl
theorem bd_used (r : Nat) : used (bd r) = 3 := rfl
theorem bd_R (r : Nat) : (bd r).R = r := rfl
theorem ok1 (r : Nat) (h1 : 3 ≤ r) (h2 : r ≤ 1048576) : Ok (app (new r) 3 [97, 98]) := ok_app _ _ _ (ok_new r (by omega) h2) (by decide) (by show 0 + 2 ≤ r; omega)
theorem ok2 (r : Nat) (h1 : 3 ≤ r) (h2 : r ≤ 1048576) : Ok (syn (app (new r) 3 [97, 98]) 3) := ok_syn _ _ (ok1 r h1 h2)
theorem ok_bd (r : Nat) (h1 : 3 ≤ r) (h2 : r ≤ 1048576) : Ok (bd r) := ok_app _ _ _ (ok2 r h1 h2) (by decide) (by show 2 + 1 ≤ r; omega)

set_option maxRecDepth 100000 in
set_option maxHeartbeats 4000000 in
theorem begun_any (r : Nat) (h1 : 3 ≤ r) (h2 : r ≤ 1048576) (w : World) :
    Calls Try.prog 11 #[.int .i64 (r : Int)] w fun e w' => ∃ b, e = .returned (.pointer (some ⟨b, 0, none⟩)) ∧ DAt w.heap.size w b (bd r) w' := by
  have hBw : w.heap.size ≤ w.heap.size := Nat.le_refl _
  have C0 : Hid (Calls Try.prog 9 #[.int .i64 (r : Int)] w fun e w' => ∃ b, e = .returned (.tuple #[.pointer (some ⟨b, 0, none⟩), .int .i64 0]) ∧ DAt w.heap.size w b (new r) w') := by
    refine (new_any r (by omega) h2 w).mono ?_
    rintro e w' ⟨h1, h2, h3⟩
    refine ⟨_, h1, _, h2, ?_, h3⟩
    rintro k (rfl | ⟨i, hi, hk⟩)
    · exact Nat.le_refl _
    · cases hk
  have C1 : Hid (∀ w1 b, DAt w.heap.size w b (new r) w1 → Calls Try.prog 22 #[.pointer (some ⟨b, 0, none⟩), .int .i64 3, .string ⟨#[97, 98]⟩] w1 fun e w' => e = .returned (.int .i64 0) ∧ DAt w.heap.size w b (app (new r) 3 [97, 98]) w') := fun w1 b ⟨V, hP, hB, hb⟩ =>
    (append_any w1 b V (new r) 3 ⟨#[97, 98]⟩ (by decide) hP (ok_new r (by omega) h2) (by show 0 + 2 ≤ r; omega)).mono fun e w' ⟨k1, k2⟩ => ⟨k1, pok_dat hBw hB hb k2⟩
  have C2 : Hid (∀ w1 b, DAt w.heap.size w b (app (new r) 3 [97, 98]) w1 → Calls Try.prog 20 #[.pointer (some ⟨b, 0, none⟩), .int .i64 3] w1 fun e w' => e = .returned (.int .i64 0) ∧ DAt w.heap.size w b (syn (app (new r) 3 [97, 98]) 3) w') := fun w1 b ⟨V, hP, hB, hb⟩ =>
    (sync_any w1 b V _ 3 (by decide) hP).mono fun e w' ⟨k1, k2⟩ => ⟨k1, pok_dat hBw hB hb k2⟩
  have C3 : Hid (∀ w1 b, DAt w.heap.size w b (syn (app (new r) 3 [97, 98]) 3) w1 → Calls Try.prog 22 #[.pointer (some ⟨b, 0, none⟩), .int .i64 3, .string ⟨#[99]⟩] w1 fun e w' => e = .returned (.int .i64 0) ∧ DAt w.heap.size w b (bd r) w') := fun w1 b ⟨V, hP, hB, hb⟩ =>
    (append_any w1 b V _ 3 ⟨#[99]⟩ (by decide) hP (ok2 r h1 h2) (by show 2 + 1 ≤ r; omega)).mono fun e w' ⟨k1, k2⟩ => ⟨k1, pok_dat hBw hB hb k2⟩
  have C4 : Hid (∀ w1 b, DAt w.heap.size w b (bd r) w1 → Calls Try.prog 21 #[.pointer (some ⟨b, 0, none⟩), .int .i64 3] w1 fun e w' => e = .returned (.tuple #[.string ⟨#[97, 98, 99]⟩, .int .i64 0]) ∧ DAt w.heap.size w b (bd r) w') := fun w1 b hD =>
    (read_any w1 b _ _ 3 (by decide) hD.choose_spec.1 (ok_bd r h1 h2)).mono fun e w' ⟨k1, k2⟩ => ⟨k1, dat_below hD hBw k2⟩
  have C5 : Hid (∀ w1 b, DAt w.heap.size w b (bd r) w1 → Calls Try.prog 26 #[.pointer (some ⟨b, 0, none⟩), .int .i64 3] w1 fun e w' => e = .returned (.tuple #[.int .i64 3, .int .i64 2, .int .i64 0]) ∧ DAt w.heap.size w b (bd r) w') := fun w1 b hD =>
    (size_any w1 b _ _ 3 (by decide) hD.choose_spec.1).mono fun e w' ⟨k1, k2⟩ => ⟨k1, dat_drewN hD hBw k2⟩
  have C6 : Hid (∀ w1 b, DAt w.heap.size w b (bd r) w1 → Calls Try.prog 23 #[.pointer (some ⟨b, 0, none⟩)] w1 fun e w' => e = .returned (.int .i64 3) ∧ w' = w1) := fun w1 b hD => used_any w1 b _ _ hD.choose_spec.1 (ok_bd r h1 h2)
  have C7 : Hid (∀ w1 b, DAt w.heap.size w b (bd r) w1 → Calls Try.prog 24 #[.pointer (some ⟨b, 0, none⟩)] w1 fun e w' => e = .returned (.int .i64 (r : Int)) ∧ w' = w1) := fun w1 b hD => room_any w1 b _ _ hD.choose_spec.1
  clear hBw
  generalize hD1 : DAt w.heap.size w = D at *
  clear hD1
  go_enter Try.func11, Try.ntmps11
  go_wp2_with fail
  refine C0.out.mono ?_
  rintro e w1 ⟨b, rfl, d1⟩
  go_wp2_with fail
  refine (C1.out _ _ d1).mono ?_
  rintro e w2 ⟨rfl, d2⟩
  clear d1
  go_wp2_with fail
  refine (C2.out _ _ d2).mono ?_
  rintro e w3 ⟨rfl, d3⟩
  clear d2
  go_wp2_with fail
  refine (C3.out _ _ d3).mono ?_
  rintro e w4 ⟨rfl, d4⟩
  clear d3
  go_wp2_with fail
  refine (C4.out _ _ d4).mono ?_
  rintro e w5 ⟨rfl, d5⟩
  clear d4
  go_wp2_with fail
  refine (C5.out _ _ d5).mono ?_
  rintro e w6 ⟨rfl, d6⟩
  clear d5
  go_wp2_with fail
  refine (C6.out _ _ d6).mono ?_
  rintro e w7 ⟨rfl, hw⟩
  rw [hw]; clear hw w7
  go_wp2_with fail
  refine (C7.out _ _ d6).mono ?_
  rintro e w7 ⟨rfl, hw⟩
  rw [hw]; clear hw w7
  go_wp2
  go_ret
  exact ⟨b, rfl, d6⟩
end Go.Proofs.Ytnemnkmogbnjcaa
