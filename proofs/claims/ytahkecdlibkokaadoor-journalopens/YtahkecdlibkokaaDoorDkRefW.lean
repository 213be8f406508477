/- The walks of the document's disk: New, Used, Room, Read, Size. -/
import Derived.Test.YtahkecdlibkokaaDoorDkPutW
set_option linter.unusedVariables false
set_option maxRecDepth 100000
namespace Go.Proofs.YtahkecdlibkokaaDoor.Dk
open Go.RowKit
open DiskMath

theorem refIs_no (i : Int) (h : i < 0 ∨ 4 ≤ i) (w : World) : Calls Tryd.prog 54 #[.int .i64 i] w fun e w' => e = .returned (.bool false) ∧ w' = w := by
  by_cases h0 : i < 0
  · have h1 : decide ((0 : Int) ≤ i) = false := by simp; omega
    clear h
    go_enter Tryd.func54, Tryd.ntmps54
    go_wp2
    go_ret
    exact ⟨rfl, rfl⟩
  · have h1 : (0 : Int) ≤ i := by omega
    have h2 : decide (i < 4) = false := by simp; omega
    clear h
    go_enter Tryd.func54, Tryd.ntmps54
    go_wp2
    go_ret
    exact ⟨rfl, rfl⟩
theorem refIs_yes (i : Nat) (h : i < 4) (w : World) : Calls Tryd.prog 54 #[.int .i64 (i : Int)] w fun e w' => e = .returned (.bool true) ∧ w' = w := by
  have h2 : (i : Int) < 4 := by omega
  go_enter Tryd.func54, Tryd.ntmps54
  go_wp2
  go_ret
  exact ⟨rfl, rfl⟩
theorem refRead_bad (p : Value) (i : Int) (h : i < 0 ∨ 4 ≤ i) (w : World) : Calls Tryd.prog 34 #[p, .int .i64 i] w fun e w' => e = .returned (.tuple #[.string ⟨#[]⟩, .int .i64 40]) ∧ w' = w := by
  go_enter Tryd.func34, Tryd.ntmps34
  go_wp2_with (go_at_call 54; refine (refIs_no i h _).mono ?_; rintro e w' ⟨rfl, hw'⟩; rw [hw']; clear hw' w')
  go_ret2
  exact ⟨rfl, rfl⟩
theorem refSize_bad (p : Value) (i : Int) (h : i < 0 ∨ 4 ≤ i) (w : World) : Calls Tryd.prog 35 #[p, .int .i64 i] w fun e w' => e = .returned (.tuple #[.int .i64 0, .int .i64 0, .int .i64 40]) ∧ w' = w := by
  go_enter Tryd.func35, Tryd.ntmps35
  go_wp2_with (go_at_call 54; refine (refIs_no i h _).mono ?_; rintro e w' ⟨rfl, hw'⟩; rw [hw']; clear hw' w')
  go_ret3
  exact ⟨rfl, rfl⟩
set_option maxHeartbeats 1000000 in
theorem refUsed_any (w : World) (b : Nat) (d : DS) (h : RDisk w b d) (hk : Ok d) :
    Calls Tryd.prog 57 #[.pointer (some ⟨b, 0, none⟩)] w fun e w' => e = .returned (.int .i64 (used d : Int)) ∧ w' = w := by
  have HC : Hid (∀ i, i < 4 → w.cell? ⟨b, i * 2, none⟩ = some (strV (d.F i))) := h.bytes
  have hm := hk.most
  have hr := hk.room
  have HU : Hid (∀ k, k ≤ 4 → usedTo d k ≤ used d) := usedTo_le d
  clear h hk
  go_enter Tryd.func57, Tryd.ntmps57
  go_wp2
  go_loop [3, 4] (fun u i => ∃ k : Nat, k ≤ 4 ∧ i = .int .i64 (k : Int) ∧ u = .int .i64 (usedTo d k : Int)) (fun _ i => 4 - (intOf i).toNat)
  case atStart => exact ⟨0, Nat.zero_le _, rfl, rfl⟩
  case round =>
    obtain ⟨k, hk4, rfl, rfl⟩ := hrel
    by_cases hlt : k < 4
    · have hc := HC.out k hlt
      have h1 := HU.out k (by omega)
      have h2 := HU.out (k + 1) (by omega)
      have HE : Hid (usedTo d (k + 1) = usedTo d k + (d.F k).length) := rfl
      rw [HE.out] at h2
      have i4 : (k : Int) < 4 := by omega
      unfold strV at hc
      have hz := strV_size (d.F k)
      rw [← hz] at HE h2
      clear hz
      generalize ByteArray.mk (d.F k).toArray = y at *
      generalize usedTo d k = u at *
      go_wp2
      exact ⟨⟨k + 1, by omega, by go_num, by rw [HE.out]; go_num⟩, by simp [intOf]; omega⟩
    · obtain rfl : k = 4 := by omega
      rw [usedTo_four]
      go_wp2
      go_ret
      exact ⟨rfl, rfl⟩
theorem refRead_any (w : World) (b : Nat) (d : DS) (i : Nat) (hi : i < 4) (h : RDisk w b d) :
    Calls Tryd.prog 34 #[.pointer (some ⟨b, 0, none⟩), .int .i64 (i : Int)] w fun e w' => e = .returned (.tuple #[strV (d.F i), .int .i64 0]) ∧ w' = w := by
  have h1 := h.bytes i hi
  have i4 : (i : Int) < 4 := by omega
  clear h
  go_enter Tryd.func34, Tryd.ntmps34
  go_wp2_with (go_at_call 54; refine (refIs_yes i hi _).mono ?_; rintro e w' ⟨rfl, hw'⟩; rw [hw']; clear hw' w')
  go_ret2
  exact ⟨rfl, rfl⟩
set_option maxHeartbeats 1000000 in
theorem refSize_any (w : World) (b : Nat) (d : DS) (i : Nat) (hi : i < 4) (h : RDisk w b d) :
    Calls Tryd.prog 35 #[.pointer (some ⟨b, 0, none⟩), .int .i64 (i : Int)] w fun e w' => e = .returned (.tuple #[.int .i64 ((d.F i).length : Int), .int .i64 (d.S i : Int), .int .i64 0]) ∧ ∃ q, w' = w.drewN q := by
  have h1 := h.bytes i hi
  have h2 := h.safe i hi
  have i4 : (i : Int) < 4 := by omega
  have hz := strV_size (d.F i)
  unfold strV at h1
  rw [← hz]
  clear hz
  generalize ByteArray.mk (d.F i).toArray = y at *
  clear h
  go_enter Tryd.func35, Tryd.ntmps35
  go_wp2_with (go_at_call 54; refine (refIs_yes i hi _).mono ?_; rintro e w' ⟨rfl, hw'⟩; rw [hw']; clear hw' w')
  go_quiet (fail)
  go_wp2
  go_ret3
  exact ⟨rfl, _, rfl⟩
theorem refNew_bad (r : Int) (h : r < 1 ∨ 1048576 < r) (w : World) : Calls Tryd.prog 29 #[.int .i64 r] w fun e w' => e = .returned (.tuple #[.pointer none, .int .i64 1]) ∧ w' = w := by
  by_cases h0 : r < 1
  · clear h
    go_enter Tryd.func29, Tryd.ntmps29
    go_wp2
    go_ret2
    exact ⟨rfl, rfl⟩
  · have h1 : 1048576 < r := by omega
    have h2 : decide (r < 1) = false := by simp; omega
    clear h
    go_enter Tryd.func29, Tryd.ntmps29
    go_wp2
    go_ret2
    exact ⟨rfl, rfl⟩
theorem rdisk_new (w : World) (r : Nat) : RDisk (w.alloc (.cells #[.string ⟨#[]⟩, .int .i64 0, .string ⟨#[]⟩, .int .i64 0, .string ⟨#[]⟩, .int .i64 0, .string ⟨#[]⟩, .int .i64 0, .int .i64 (r : Int)] 86)) w.heap.size (new r) := by
  refine ⟨by simp, fun i hi => ?_, fun i hi => ?_, by simp [new], fun j => ?_⟩
  · rcases (show i = 0 ∨ i = 1 ∨ i = 2 ∨ i = 3 by omega) with rfl | rfl | rfl | rfl <;> simp [new, strV]
  · rcases (show i = 0 ∨ i = 1 ∨ i = 2 ∨ i = 3 by omega) with rfl | rfl | rfl | rfl <;> simp [new]
  · rw [World.frozen?, heap_alloc_new w _]
    simp
theorem refNew_any (r : Nat) (h1 : 1 ≤ r) (h2 : r ≤ 1048576) (w : World) : Calls Tryd.prog 29 #[.int .i64 (r : Int)] w fun e w' => e = .returned (.tuple #[.pointer (some ⟨w.heap.size, 0, none⟩), .int .i64 0]) ∧ RDisk w' w.heap.size (new r) ∧ w.heap.size < w'.heap.size ∧ Below w.heap.size w w' := by
  have q1 : ¬ ((r : Int) < 1) := by omega
  have q2 : ¬ ((1048576 : Int) < (r : Int)) := by omega
  go_enter Tryd.func29, Tryd.ntmps29
  go_wp2
  go_ret2
  exact ⟨rfl, rdisk_new w r, by simp, (Below.refl _ _).alloc (Nat.le_refl _) _⟩
end Go.Proofs.YtahkecdlibkokaaDoor.Dk