/- The walk of the laws' own 'same': all that two disks tell. -/
import Derived.Test.YtnemnkmogbnjcaaReadW
import Derived.Test.YtnemnkmogbnjcaaRefW
set_option linter.unusedVariables false
namespace Go.Proofs.Ytnemnkmogbnjcaa
open Go.RowKit
open DiskMath

theorem reads_all (w : World) (bx br : Nat) (V : Nat → Value) (d : DS) (hP : PDisk w bx V d) (hR : RDisk w br d) (hk : Ok d) (i : Int) : ∃ (s : ByteArray) (e : Int),
    (∀ w1, Below w.heap.size w w1 → Calls Try.prog 21 #[.pointer (some ⟨bx, 0, none⟩), .int .i64 i] w1 fun en w' => en = .returned (.tuple #[.string s, .int .i64 e]) ∧ Below w1.heap.size w1 w') ∧
    (∀ w1, Below w.heap.size w w1 → Calls Try.prog 29 #[.pointer (some ⟨br, 0, none⟩), .int .i64 i] w1 fun en w' => en = .returned (.tuple #[.string s, .int .i64 e]) ∧ Below w1.heap.size w1 w') := by
  by_cases h : i < 0 ∨ 4 ≤ i
  · exact ⟨⟨#[]⟩, 40, fun w1 _ => (read_bad _ i h w1).mono fun en w' ⟨h1, h2⟩ => ⟨h1, h2 ▸ Below.refl _ _⟩, fun w1 _ => (refRead_bad _ i h w1).mono fun en w' ⟨h1, h2⟩ => ⟨h1, h2 ▸ Below.refl _ _⟩⟩
  · obtain ⟨k, rfl⟩ := Int.eq_ofNat_of_zero_le (show 0 ≤ i by omega)
    exact ⟨_, 0, fun w1 hb => read_any w1 bx V d k (by omega) (pdisk_below hP hb) hk, fun w1 hb => (refRead_any w1 br d k (by omega) (rdisk_below hR hb)).mono fun en w' ⟨h1, h2⟩ => ⟨h1, h2 ▸ Below.refl _ _⟩⟩
theorem sizes_all (w : World) (bx br : Nat) (V : Nat → Value) (d : DS) (hP : PDisk w bx V d) (hR : RDisk w br d) (i : Int) : ∃ (n m e : Int),
    (∀ w1, Below w.heap.size w w1 → Calls Try.prog 26 #[.pointer (some ⟨bx, 0, none⟩), .int .i64 i] w1 fun en w' => en = .returned (.tuple #[.int .i64 n, .int .i64 m, .int .i64 e]) ∧ Below w1.heap.size w1 w') ∧
    (∀ w1, Below w.heap.size w w1 → Calls Try.prog 30 #[.pointer (some ⟨br, 0, none⟩), .int .i64 i] w1 fun en w' => en = .returned (.tuple #[.int .i64 n, .int .i64 m, .int .i64 e]) ∧ Below w1.heap.size w1 w') := by
  have dr : ∀ {w1 w' : World}, (∃ q, w' = w1.drewN q) → Below w1.heap.size w1 w' := fun ⟨q, e⟩ => by rw [e]; exact below_drewN (Below.refl _ _) q
  by_cases h : i < 0 ∨ 4 ≤ i
  · exact ⟨0, 0, 40, fun w1 _ => (size_bad _ i h w1).mono fun en w' ⟨h1, h2⟩ => ⟨h1, h2 ▸ Below.refl _ _⟩, fun w1 _ => (refSize_bad _ i h w1).mono fun en w' ⟨h1, h2⟩ => ⟨h1, h2 ▸ Below.refl _ _⟩⟩
  · obtain ⟨k, rfl⟩ := Int.eq_ofNat_of_zero_le (show 0 ≤ i by omega)
    exact ⟨_, _, 0, fun w1 hb => (size_any w1 bx V d k (by omega) (pdisk_below hP hb)).mono fun en w' ⟨h1, h2⟩ => ⟨h1, dr h2⟩, fun w1 hb => (refSize_any w1 br d k (by omega) (rdisk_below hR hb)).mono fun en w' ⟨h1, h2⟩ => ⟨h1, dr h2⟩⟩

set_option maxRecDepth 100000 in
set_option maxHeartbeats 4000000 in
theorem same_true (w : World) (bx br : Nat) (V : Nat → Value) (d : DS) (hP : PDisk w bx V d) (hR : RDisk w br d) (hk : Ok d) :
    Calls Try.prog 12 #[.agg #[.pointer (some ⟨bx, 0, none⟩), .pointer (some ⟨br, 0, none⟩)]] w fun e w' => e = .returned (.bool true) ∧ Below w.heap.size w w' := by
  obtain ⟨w0, hw0⟩ : ∃ w0, w0 = w.alloc (.cells #[.pointer (some ⟨bx, 0, none⟩), .pointer (some ⟨br, 0, none⟩)] 31) := ⟨_, rfl⟩
  have hb0 : Below w.heap.size w w0 := by rw [hw0]; exact (Below.refl _ _).alloc (Nat.le_refl _) _
  have c0 : w0.cell? ⟨w.heap.size, 0, none⟩ = some (.pointer (some ⟨bx, 0, none⟩)) := by rw [hw0]; simp
  have c1 : w0.cell? ⟨w.heap.size, 1, none⟩ = some (.pointer (some ⟨br, 0, none⟩)) := by rw [hw0]; simp
  have hs0 : w.heap.size < w0.heap.size := by rw [hw0]; simp
  have U1 : Hid (∀ n, Calls Try.prog 23 #[.pointer (some ⟨bx, 0, none⟩)] (w0.drewN n) fun e w' => e = .returned (.int .i64 (used d : Int)) ∧ w' = w0.drewN n) := fun n => used_any (w0.drewN n) bx V d (pdisk_drewN (pdisk_below hP hb0) n) hk
  have U2 : Hid (∀ n, Calls Try.prog 27 #[.pointer (some ⟨br, 0, none⟩)] (w0.drewN n) fun e w' => e = .returned (.int .i64 (used d : Int)) ∧ w' = w0.drewN n) := fun n => refUsed_any (w0.drewN n) br d (rdisk_drewN (rdisk_below hR hb0) n) hk
  have U3 : Hid (∀ n, Calls Try.prog 24 #[.pointer (some ⟨bx, 0, none⟩)] (w0.drewN n) fun e w' => e = .returned (.int .i64 (d.R : Int)) ∧ w' = w0.drewN n) := fun n => room_any (w0.drewN n) bx V d (pdisk_drewN (pdisk_below hP hb0) n)
  have U4 : Hid (∀ n, Calls Try.prog 28 #[.pointer (some ⟨br, 0, none⟩)] (w0.drewN n) fun e w' => e = .returned (.int .i64 (d.R : Int)) ∧ w' = w0.drewN n) := fun n => refRoom_any (w0.drewN n) br d (rdisk_drewN (rdisk_below hR hb0) n)
  have HRD : Hid (∀ i : Int, ∃ (s : ByteArray) (e : Int), (∀ w1, Below w.heap.size w w1 → Calls Try.prog 21 #[.pointer (some ⟨bx, 0, none⟩), .int .i64 i] w1 fun en w' => en = .returned (.tuple #[.string s, .int .i64 e]) ∧ Below w1.heap.size w1 w') ∧
    (∀ w1, Below w.heap.size w w1 → Calls Try.prog 29 #[.pointer (some ⟨br, 0, none⟩), .int .i64 i] w1 fun en w' => en = .returned (.tuple #[.string s, .int .i64 e]) ∧ Below w1.heap.size w1 w')) := reads_all w bx br V d hP hR hk
  have HSZ : Hid (∀ i : Int, ∃ (n m e : Int), (∀ w1, Below w.heap.size w w1 → Calls Try.prog 26 #[.pointer (some ⟨bx, 0, none⟩), .int .i64 i] w1 fun en w' => en = .returned (.tuple #[.int .i64 n, .int .i64 m, .int .i64 e]) ∧ Below w1.heap.size w1 w') ∧
    (∀ w1, Below w.heap.size w w1 → Calls Try.prog 30 #[.pointer (some ⟨br, 0, none⟩), .int .i64 i] w1 fun en w' => en = .returned (.tuple #[.int .i64 n, .int .i64 m, .int .i64 e]) ∧ Below w1.heap.size w1 w')) := sizes_all w bx br V d hP hR
  have HC : Hid (∀ w1, Below w0.heap.size w0 w1 → w1.cell? ⟨w.heap.size, 0, none⟩ = some (.pointer (some ⟨bx, 0, none⟩)) ∧ w1.cell? ⟨w.heap.size, 1, none⟩ = some (.pointer (some ⟨br, 0, none⟩)) ∧ Below w.heap.size w w1) := fun w1 hb =>
    ⟨(hb.cell (p := ⟨w.heap.size, 0, none⟩) hs0).trans c0, (hb.cell (p := ⟨w.heap.size, 1, none⟩) hs0).trans c1, hb0.trans (hb.mono hb0.size)⟩
  have HW0 : Hid (w0 = w.alloc (.cells #[.pointer (some ⟨bx, 0, none⟩), .pointer (some ⟨br, 0, none⟩)] 31)) := hw0
  clear hP hR hk hw0 hs0
  generalize used d = ud at *
  generalize d.R = rr at *
  go_enter Try.func12, Try.ntmps12
  go_wp2_with fail
  rw [← HW0.out]
  go_quiet (first | (go_at_call 23; exact Calls.quiet_of_same (U1.out _)) | (go_at_call 27; exact Calls.quiet_of_same (U2.out _)) | (go_at_call 24; exact Calls.quiet_of_same (U3.out _)) | (go_at_call 28; exact Calls.quiet_of_same (U4.out _)))
  rename_i nq
  have hbq : Below w0.heap.size w0 (w0.drewN nq) := below_drewN (Below.refl _ _) nq
  clear U1 U2 U3 U4 c0 c1 HW0
  go_wp2_with fail
  go_loopw [3] (fun i wr => ∃ j : Nat, j ≤ 6 ∧ i = .int .i64 ((j : Int) - 1) ∧ Below w0.heap.size w0 wr) (fun i _ => (5 - intOf i).toNat)
  case atStart => exact ⟨0, by decide, rfl, hbq⟩
  case round =>
    obtain ⟨j, hj, rfl, hbw⟩ := hrel
    clear hbq
    by_cases hlt : j < 6
    · obtain ⟨s, e1, r1, r2⟩ := HRD.out ((j : Int) - 1)
      obtain ⟨n, m, e2, z1, z2⟩ := HSZ.out ((j : Int) - 1)
      have R1 : Hid (∀ w1, Below w.heap.size w w1 → Calls Try.prog 21 #[.pointer (some ⟨bx, 0, none⟩), .int .i64 ((j : Int) - 1)] w1 fun en w' => en = .returned (.tuple #[.string s, .int .i64 e1]) ∧ Below w1.heap.size w1 w') := r1
      have R2 : Hid (∀ w1, Below w.heap.size w w1 → Calls Try.prog 29 #[.pointer (some ⟨br, 0, none⟩), .int .i64 ((j : Int) - 1)] w1 fun en w' => en = .returned (.tuple #[.string s, .int .i64 e1]) ∧ Below w1.heap.size w1 w') := r2
      have Z1 : Hid (∀ w1, Below w.heap.size w w1 → Calls Try.prog 26 #[.pointer (some ⟨bx, 0, none⟩), .int .i64 ((j : Int) - 1)] w1 fun en w' => en = .returned (.tuple #[.int .i64 n, .int .i64 m, .int .i64 e2]) ∧ Below w1.heap.size w1 w') := z1
      have Z2 : Hid (∀ w1, Below w.heap.size w w1 → Calls Try.prog 30 #[.pointer (some ⟨br, 0, none⟩), .int .i64 ((j : Int) - 1)] w1 fun en w' => en = .returned (.tuple #[.int .i64 n, .int .i64 m, .int .i64 e2]) ∧ Below w1.heap.size w1 w') := z2
      clear r1 r2 z1 z2
      have hi0 : -1 ≤ (j : Int) - 1 := by omega
      have hi1 : (j : Int) - 1 ≤ 4 := by omega
      have HJ : Hid ((j : Int) - 1 + 1 = ((j + 1 : Nat) : Int) - 1) := by show _ = _; omega
      have HM : Hid ((5 - ((j : Int) - 1 + 1)).toNat < (5 - ((j : Int) - 1)).toNat) := by show _ < _; omega
      generalize (j : Int) - 1 = i at *
      obtain ⟨k0, k1, k2⟩ := HC.out _ hbw
      go_wp2_with fail
      refine (R1.out _ k2).mono ?_
      rintro e w1 ⟨rfl, hb1⟩
      have g1 := hbw.trans (hb1.mono hbw.size)
      clear hb1 hbw k0 k1 k2
      obtain ⟨k0, k1, k2⟩ := HC.out _ g1
      go_wp2_with fail
      refine (R2.out _ k2).mono ?_
      rintro e w2 ⟨rfl, hb1⟩
      have g2 := g1.trans (hb1.mono g1.size)
      clear hb1 g1 k0 k1 k2
      obtain ⟨k0, k1, k2⟩ := HC.out _ g2
      go_wp2_with fail
      refine (Z1.out _ k2).mono ?_
      rintro e w3 ⟨rfl, hb1⟩
      have g3 := g2.trans (hb1.mono g2.size)
      clear hb1 g2 k0 k1 k2
      obtain ⟨k0, k1, k2⟩ := HC.out _ g3
      go_wp2_with fail
      refine (Z2.out _ k2).mono ?_
      rintro e w4 ⟨rfl, hb1⟩
      have g4 := g3.trans (hb1.mono g3.size)
      clear hb1 g3 k0 k1 k2 R1 R2 Z1 Z2
      go_wp2
      exact ⟨⟨j + 1, by omega, by rw [HJ.out], g4⟩, by simp [intOf]; omega⟩
    · obtain rfl : j = 6 := by omega
      have HB := (HC.out _ hbw).2.2
      have HBH : Hid (Below w.heap.size w wr) := HB
      clear HB
      go_wp2
      go_ret
      exact ⟨rfl, HBH.out⟩
end Go.Proofs.Ytnemnkmogbnjcaa
