/- The walk of the law PackBack. -/
import Derived.Test.YtkljnihcjialaaaTakeListW
import Derived.Test.YtkljnihcjialaaaListW
set_option linter.unusedVariables false
namespace Go.Proofs.Ytkljnihcjialaaa
open Go.RowKit

theorem around_drop (r y : ByteArray) : (r ++ y ++ r).data.toList.drop r.size = y.data.toList ++ r.data.toList := by
  rw [ByteArray.data_append, ByteArray.data_append, Array.toList_append, Array.toList_append, List.append_assoc, ← size_data, List.drop_left]
theorem lst_len (xs : List (List UInt8)) (h : xs.length ≤ 4000) (h2 : ∀ s ∈ xs, s.length ≤ 2000) : (PackMath.lst xs).length ≤ 8032008 := by
  have h1 := txts_len xs h2
  have h3 := PackMath.num_len8 xs.length (by omega)
  unfold PackMath.lst
  rw [List.length_append]
  omega

theorem back_num (n : Int) (hn : -9223372036854775808 ≤ n ∧ n ≤ 9223372036854775807) (r : ByteArray) (hr : r.size ≤ 140737488351232) :
    (∀ w, Calls Try.prog 9 #[.int .i64 n] w fun en w' => en = .returned (.tuple #[.string ⟨#[]⟩, .int .i64 30]) ∧ Below w.heap.size w w') ∨
    ∃ (m : Nat) (y : ByteArray), n = (m : Int) ∧ y.size ≤ 8 ∧ (∀ w, Calls Try.prog 9 #[.int .i64 (m : Int)] w fun en w' => en = .returned (.tuple #[.string y, .int .i64 0]) ∧ Below w.heap.size w w') ∧
      (∀ w, Calls Try.prog 18 #[.string (r ++ y ++ r), .int .i64 (r.size : Int)] w fun en w' => en = .returned (.tuple #[.int .i64 (m : Int), .int .i64 ((r.size : Int) + (y.size : Int)), .int .i64 0]) ∧ w' = w) := by
  by_cases h : n < 0 ∨ 1125899906842624 < n
  · exact Or.inl fun w => (num_neg n h hn w).mono fun e w' ⟨h1, h2⟩ => ⟨h1, h2 ▸ Below.refl _ _⟩
  · obtain ⟨m, rfl⟩ := Int.eq_ofNat_of_zero_le (show 0 ≤ n by omega)
    have hl := PackMath.num_len8 m (by omega)
    have hz := strV_size (PackMath.num m)
    refine Or.inr ⟨m, ⟨(PackMath.num m).toArray⟩, rfl, by omega, fun w => num_any m (by omega) w, fun w => ?_⟩
    have := takeNum_any (r ++ ⟨(PackMath.num m).toArray⟩ ++ r) r.size (by rw [ByteArray.size_append, ByteArray.size_append]; omega) (by rw [ByteArray.size_append, ByteArray.size_append]; omega) w
    rw [around_drop, mk_data, tnV_of (PackMath.tn_num m (by omega) _), if_pos rfl, show ((r.size + (PackMath.num m).length : Nat) : Int) = (r.size : Int) + ((ByteArray.mk (PackMath.num m).toArray).size : Int) by omega] at this
    exact this

theorem back_list (xs : List (List UInt8)) (hx : xs.length ≤ 140737488355328) (hxs : ∀ s ∈ xs, s.length ≤ 140737488351232) (v : Value) (r : ByteArray) (hr : r.size ≤ 140737488351232) :
    (∀ w, SRow w v xs → Calls Try.prog 15 #[v] w fun en w' => en = .returned (.tuple #[.string ⟨#[]⟩, .int .i64 2]) ∧ Below w.heap.size w w') ∨
    ∃ (z : ByteArray), z.size ≤ 8032008 ∧ (∀ w, SRow w v xs → Calls Try.prog 15 #[v] w fun en w' => en = .returned (.tuple #[.string z, .int .i64 0]) ∧ Below w.heap.size w w') ∧
      (∀ w, Calls Try.prog 22 #[.string (r ++ z ++ r), .int .i64 (r.size : Int)] w fun en w' => ∃ ao cap, en = .returned (.tuple #[.slice ao xs.length cap, .int .i64 ((r.size : Int) + (z.size : Int)), .int .i64 0]) ∧ SRow w' (.slice ao xs.length cap) xs ∧ Below w.heap.size w w') := by
  have c1 := fun w h => list_any v xs hx hxs w h
  by_cases h : 4000 < xs.length ∨ ∃ s ∈ xs, 2000 < s.length
  · have hv : lsV xs = .tuple #[.string ⟨#[]⟩, .int .i64 2] := by unfold lsV; rw [if_pos h]
    rw [hv] at c1
    exact Or.inl c1
  · have h1 : xs.length ≤ 4000 := by
      rcases Nat.lt_or_ge 4000 xs.length with h3 | h3
      · exact absurd (Or.inl h3) h
      · exact h3
    have h2 : ∀ s ∈ xs, s.length ≤ 2000 := fun s hs => by
      rcases Nat.lt_or_ge 2000 s.length with h3 | h3
      · exact absurd (Or.inr ⟨s, hs, h3⟩) h
      · exact h3
    rw [lsV_ok xs h1 h2] at c1
    have hl := lst_len xs h1 h2
    have hz := strV_size (PackMath.lst xs)
    refine Or.inr ⟨⟨(PackMath.lst xs).toArray⟩, by omega, c1, fun w => ?_⟩
    have := takeList_any (r ++ ⟨(PackMath.lst xs).toArray⟩ ++ r) r.size (by rw [ByteArray.size_append, ByteArray.size_append]; omega) (by rw [ByteArray.size_append, ByteArray.size_append]; omega) w
    rw [around_drop, mk_data] at this
    refine this.mono ?_
    rintro en w' ⟨v', ys, c', e', k1, k2, _, k4, k5⟩
    rw [PackMath.tl_lst xs _ h1 h2] at k1
    obtain ⟨rfl, rfl, rfl⟩ : xs = ys ∧ (PackMath.lst xs).length = c' ∧ 0 = e' := by simpa using k1
    rw [if_pos rfl, show ((r.size + (PackMath.lst xs).length : Nat) : Int) = (r.size : Int) + ((ByteArray.mk (PackMath.lst xs).toArray).size : Int) by omega] at k2
    obtain ⟨ao, cap, rfl, _⟩ := own_row k4
    exact ⟨ao, cap, k2, srow_own k4, k5⟩

set_option maxRecDepth 100000 in
set_option maxHeartbeats 4000000 in
theorem packBack_walk (n : Int) (v : Value) (xs : List (List UInt8)) (r : ByteArray) (hn : -9223372036854775808 ≤ n ∧ n ≤ 9223372036854775807) (hx : xs.length ≤ 140737488355328) (hxs : ∀ s ∈ xs, s.length ≤ 140737488351232) (hr : r.size ≤ 140737488351232) (w : World) (hS : SRow w v xs) :
    Calls Try.prog 7 #[.int .i64 n, v, .string r] w fun e w' => e = .returned (.bool true) ∧ Below w.heap.size w w' := by
  have F1 := back_num n hn r hr
  have F2 := back_list xs hx hxs v r hr
  have HS0 := hS
  obtain ⟨ao, cap, rfl, hcap, hrow⟩ := hS
  have HS : Hid (SRow w (.slice ao xs.length cap) xs) := HS0
  clear HS0 hcap hrow hxs
  rcases F1 with a1 | ⟨m, y, rfl, hy, a1, a2⟩
  · have A1 : Hid (∀ w, Calls Try.prog 9 #[.int .i64 n] w fun en w' => en = .returned (.tuple #[.string ⟨#[]⟩, .int .i64 30]) ∧ Below w.heap.size w w') := a1
    clear a1
    rcases F2 with b1 | ⟨z, hz, b1, b2⟩
    · have B1 : Hid (∀ w, SRow w (.slice ao xs.length cap) xs → Calls Try.prog 15 #[.slice ao xs.length cap] w fun en w' => en = .returned (.tuple #[.string ⟨#[]⟩, .int .i64 2]) ∧ Below w.heap.size w w') := b1
      clear b1
      go_enter Try.func7, Try.ntmps7
      go_wp2_with fail
      refine (A1.out _).mono ?_
      rintro e w1 ⟨rfl, hb1⟩
      have HS1 : Hid (SRow w1 (.slice ao xs.length cap) xs) := srow_below HS.out hb1
      go_wp2_with fail
      refine (B1.out _ HS1.out).mono ?_
      rintro e w2 ⟨rfl, hb2⟩
      have k2 : Below w.heap.size w w2 := hb1.trans (hb2.mono hb1.size)
      clear hb1 hb2 HS1
      go_wp2_with fail
      refine (live_any _).mono ?_
      rintro e w5 ⟨rfl, hb5⟩
      go_wp2
      go_ret
      exact ⟨rfl, k2.trans (hb5.mono k2.size)⟩
    · have B1 : Hid (∀ w, SRow w (.slice ao xs.length cap) xs → Calls Try.prog 15 #[.slice ao xs.length cap] w fun en w' => en = .returned (.tuple #[.string z, .int .i64 0]) ∧ Below w.heap.size w w') := b1
      have B2 : Hid (∀ w, Calls Try.prog 22 #[.string (r ++ z ++ r), .int .i64 (r.size : Int)] w fun en w' => ∃ ao cap, en = .returned (.tuple #[.slice ao xs.length cap, .int .i64 ((r.size : Int) + (z.size : Int)), .int .i64 0]) ∧ SRow w' (.slice ao xs.length cap) xs ∧ Below w.heap.size w w') := b2
      clear b1 b2
      go_enter Try.func7, Try.ntmps7
      go_wp2_with fail
      refine (A1.out _).mono ?_
      rintro e w1 ⟨rfl, hb1⟩
      have HS1 : Hid (SRow w1 (.slice ao xs.length cap) xs) := srow_below HS.out hb1
      go_wp2_with fail
      refine (B1.out _ HS1.out).mono ?_
      rintro e w2 ⟨rfl, hb2⟩
      have k2 : Below w.heap.size w w2 := hb1.trans (hb2.mono hb1.size)
      have HS2 : Hid (SRow w2 (.slice ao xs.length cap) xs) := srow_below HS1.out hb2
      clear hb1 hb2 HS1
      go_wp2_with fail
      refine (B2.out _).mono ?_
      rintro e w3 ⟨ao3, cap3, rfl, hS3, hb3⟩
      have k3 := k2.trans (hb3.mono k2.size)
      have HS3 : Hid (SRow w3 (.slice ao xs.length cap) xs) := srow_below HS2.out hb3
      have HT3 : Hid (SRow w3 (.slice ao3 xs.length cap3) xs) := hS3
      clear hb3 hS3 HS2 k2
      go_wp2_with fail
      refine (same_true xs hx _ _ w3 HT3.out HS3.out).mono ?_
      rintro e w4 ⟨rfl, q, hw4⟩
      have k4 := below_drew_of k3 hw4
      clear hw4 k3 HS3 HT3
      go_wp2_with fail
      refine (live_any _).mono ?_
      rintro e w5 ⟨rfl, hb5⟩
      go_wp2
      go_ret
      exact ⟨rfl, k4.trans (hb5.mono k4.size)⟩
  · have A1 : Hid (∀ w, Calls Try.prog 9 #[.int .i64 (m : Int)] w fun en w' => en = .returned (.tuple #[.string y, .int .i64 0]) ∧ Below w.heap.size w w') := a1
    have A2 : Hid (∀ w, Calls Try.prog 18 #[.string (r ++ y ++ r), .int .i64 (r.size : Int)] w fun en w' => en = .returned (.tuple #[.int .i64 (m : Int), .int .i64 ((r.size : Int) + (y.size : Int)), .int .i64 0]) ∧ w' = w) := a2
    clear a1 a2
    rcases F2 with b1 | ⟨z, hz, b1, b2⟩
    · have B1 : Hid (∀ w, SRow w (.slice ao xs.length cap) xs → Calls Try.prog 15 #[.slice ao xs.length cap] w fun en w' => en = .returned (.tuple #[.string ⟨#[]⟩, .int .i64 2]) ∧ Below w.heap.size w w') := b1
      clear b1
      go_enter Try.func7, Try.ntmps7
      go_wp2_with fail
      refine (A1.out _).mono ?_
      rintro e w1 ⟨rfl, hb1⟩
      go_wp2_with fail
      refine (A2.out _).mono ?_
      rintro e w1' ⟨rfl, hw1⟩
      rw [hw1]; clear hw1 w1'
      have HS1 : Hid (SRow w1 (.slice ao xs.length cap) xs) := srow_below HS.out hb1
      go_wp2_with fail
      refine (B1.out _ HS1.out).mono ?_
      rintro e w2 ⟨rfl, hb2⟩
      have k2 : Below w.heap.size w w2 := hb1.trans (hb2.mono hb1.size)
      clear hb1 hb2 HS1
      go_wp2_with fail
      refine (live_any _).mono ?_
      rintro e w5 ⟨rfl, hb5⟩
      go_wp2
      go_ret
      exact ⟨rfl, k2.trans (hb5.mono k2.size)⟩
    · have B1 : Hid (∀ w, SRow w (.slice ao xs.length cap) xs → Calls Try.prog 15 #[.slice ao xs.length cap] w fun en w' => en = .returned (.tuple #[.string z, .int .i64 0]) ∧ Below w.heap.size w w') := b1
      have B2 : Hid (∀ w, Calls Try.prog 22 #[.string (r ++ z ++ r), .int .i64 (r.size : Int)] w fun en w' => ∃ ao cap, en = .returned (.tuple #[.slice ao xs.length cap, .int .i64 ((r.size : Int) + (z.size : Int)), .int .i64 0]) ∧ SRow w' (.slice ao xs.length cap) xs ∧ Below w.heap.size w w') := b2
      clear b1 b2
      go_enter Try.func7, Try.ntmps7
      go_wp2_with fail
      refine (A1.out _).mono ?_
      rintro e w1 ⟨rfl, hb1⟩
      go_wp2_with fail
      refine (A2.out _).mono ?_
      rintro e w1' ⟨rfl, hw1⟩
      rw [hw1]; clear hw1 w1'
      have HS1 : Hid (SRow w1 (.slice ao xs.length cap) xs) := srow_below HS.out hb1
      go_wp2_with fail
      refine (B1.out _ HS1.out).mono ?_
      rintro e w2 ⟨rfl, hb2⟩
      have k2 : Below w.heap.size w w2 := hb1.trans (hb2.mono hb1.size)
      have HS2 : Hid (SRow w2 (.slice ao xs.length cap) xs) := srow_below HS1.out hb2
      clear hb1 hb2 HS1
      go_wp2_with fail
      refine (B2.out _).mono ?_
      rintro e w3 ⟨ao3, cap3, rfl, hS3, hb3⟩
      have k3 := k2.trans (hb3.mono k2.size)
      have HS3 : Hid (SRow w3 (.slice ao xs.length cap) xs) := srow_below HS2.out hb3
      have HT3 : Hid (SRow w3 (.slice ao3 xs.length cap3) xs) := hS3
      clear hb3 hS3 HS2 k2
      go_wp2_with fail
      refine (same_true xs hx _ _ w3 HT3.out HS3.out).mono ?_
      rintro e w4 ⟨rfl, q, hw4⟩
      have k4 := below_drew_of k3 hw4
      clear hw4 k3 HS3 HT3
      go_wp2_with fail
      refine (live_any _).mono ?_
      rintro e w5 ⟨rfl, hb5⟩
      go_wp2
      go_ret
      exact ⟨rfl, k4.trans (hb5.mono k4.size)⟩
end Go.Proofs.Ytkljnihcjialaaa
