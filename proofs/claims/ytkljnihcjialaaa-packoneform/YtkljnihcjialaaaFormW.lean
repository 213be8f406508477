/- The walk of the law PackOneForm. -/
import Derived.Test.YtkljnihcjialaaaAllW
import Derived.Test.YtkljnihcjialaaaListW
set_option linter.unusedVariables false
namespace Go.Proofs.Ytkljnihcjialaaa
open Go.RowKit

theorem extract_all (s : ByteArray) (j : Nat) (h : j ≤ s.size) : (s.extract 0 j).data.toList = s.data.toList.take j ∧ (s.extract 0 j).size = j := by
  refine ⟨by rw [extract_data]; simp, ?_⟩
  rw [ByteArray.size_extract]; omega
theorem take_drop_at (l : List UInt8) (a j : Nat) (h : a ≤ j) : (l.take j).drop a = (l.drop a).take (j - a) := List.drop_take ..

/-- What TakeNum answers, and what becomes of it: either an error, or all that the law asks. -/
theorem form_num (s : ByteArray) (at_ : Int) (hs : s.size ≤ 4611686018427387904) (hat : -9223372036854775808 ≤ at_ ∧ at_ ≤ 9223372036854775807) :
    (∃ (n p e : Int), ¬ e = 0 ∧ ∀ w, Calls Try.prog 18 #[.string s, .int .i64 at_] w fun en w' => en = .returned (.tuple #[.int .i64 n, .int .i64 p, .int .i64 e]) ∧ w' = w) ∨
    ∃ (a n p : Nat), at_ = (a : Int) ∧ a < p ∧ p ≤ s.size ∧
      (∀ w, Calls Try.prog 18 #[.string s, .int .i64 (a : Int)] w fun en w' => en = .returned (.tuple #[.int .i64 (n : Int), .int .i64 (p : Int), .int .i64 0]) ∧ w' = w) ∧
      (∀ w, Calls Try.prog 9 #[.int .i64 (n : Int)] w fun en w' => en = .returned (.tuple #[.string (s.extract a p), .int .i64 0]) ∧ Below w.heap.size w w') ∧
      (∀ w, Calls Try.prog 18 #[.string (s.extract 0 (p - 1)), .int .i64 (a : Int)] w fun en w' => en = .returned (.tuple #[.int .i64 0, .int .i64 0, .int .i64 31]) ∧ w' = w) := by
  by_cases h : at_ < 0 ∨ (s.size : Int) < at_
  · exact Or.inl ⟨0, 0, 1, by decide, fun w => takeNum_out s at_ hs h w⟩
  · obtain ⟨a, rfl⟩ := Int.eq_ofNat_of_zero_le (show 0 ≤ at_ by omega)
    obtain ⟨n, c, e, htn⟩ : ∃ n c e, PackMath.tn (s.data.toList.drop a) = (n, c, e) := ⟨_, _, _, rfl⟩
    have c1 := fun w => takeNum_any s a hs (by omega) w
    rw [tnV_of htn] at c1
    by_cases he : e = 0
    · subst he
      obtain ⟨k1, k2, k3, k4, k5, k6, k7⟩ := PackMath.tn_ok htn
      rw [List.length_drop, size_data] at k4
      refine Or.inr ⟨a, n, a + c, rfl, by omega, by omega, c1, ?_, ?_⟩
      · intro w
        have := num_any n k1 w
        rw [← k3] at this
        rwa [strV_extract, Nat.add_sub_cancel_left]
      · intro w
        have hx := extract_all s (a + c - 1) (by omega)
        have := takeNum_any (s.extract 0 (a + c - 1)) a (by rw [hx.2]; omega) (by rw [hx.2]; omega) w
        rw [hx.1, take_drop_at _ _ _ (by omega), show a + c - 1 - a = c - 1 by omega, tnV_of (k7 (c - 1) (by omega))] at this
        exact this
    · rw [if_neg he] at c1
      exact Or.inl ⟨n, 0, e, by omega, c1⟩

theorem form_list (s : ByteArray) (at_ : Int) (hs : s.size ≤ 4611686018427387904) (hat : -9223372036854775808 ≤ at_ ∧ at_ ≤ 9223372036854775807) :
    (∃ (p e : Int), ¬ e = 0 ∧ ∀ w, Calls Try.prog 22 #[.string s, .int .i64 at_] w fun en w' => ∃ ao n cap, en = .returned (.tuple #[.slice ao n cap, .int .i64 p, .int .i64 e]) ∧ Below w.heap.size w w') ∨
    ∃ (a p : Nat) (xs : List (List UInt8)), at_ = (a : Int) ∧ a < p ∧ p ≤ s.size ∧
      (∀ w, Calls Try.prog 22 #[.string s, .int .i64 (a : Int)] w fun en w' => ∃ ao cap, en = .returned (.tuple #[.slice ao xs.length cap, .int .i64 (p : Int), .int .i64 0]) ∧ SRow w' (.slice ao xs.length cap) xs ∧ Below w.heap.size w w') ∧
      (∀ v w, SRow w v xs → Calls Try.prog 15 #[v] w fun en w' => en = .returned (.tuple #[.string (s.extract a p), .int .i64 0]) ∧ Below w.heap.size w w') ∧
      (∀ w, Calls Try.prog 22 #[.string (s.extract 0 (p - 1)), .int .i64 (a : Int)] w fun en w' => ∃ ao n cap, en = .returned (.tuple #[.slice ao n cap, .int .i64 0, .int .i64 31]) ∧ Below w.heap.size w w') := by
  have shape : ∀ {w : World} {B e n : Nat} {v : Value} {ys : List Value}, w.ownsRow B e 1 v n ys → ∃ ao cap, v = .slice ao n cap := fun h => by
    obtain ⟨ao, cap, h1, _⟩ := own_row h
    exact ⟨ao, cap, h1⟩
  by_cases h : at_ < 0 ∨ (s.size : Int) < at_
  · exact Or.inl ⟨0, 1, by decide, fun w => (takeList_out s at_ hs hat h w).mono fun en w' ⟨h1, h2⟩ => ⟨none, 0, 0, h1, h2 ▸ Below.refl _ _⟩⟩
  · obtain ⟨a, rfl⟩ := Int.eq_ofNat_of_zero_le (show 0 ≤ at_ by omega)
    obtain ⟨xs, c, e, htl⟩ : ∃ xs c e, PackMath.tl (s.data.toList.drop a) = (xs, c, e) := ⟨_, _, _, rfl⟩
    have c1 := fun w => takeList_any s a hs (by omega) w
    by_cases he : e = 0
    · subst he
      obtain ⟨k1, k2, k3, k4, k5, k6, k7⟩ := PackMath.tl_ok htl
      rw [List.length_drop, size_data] at k5
      refine Or.inr ⟨a, a + c, xs, rfl, by omega, by omega, ?_, ?_, ?_⟩
      · intro w
        refine (c1 w).mono ?_
        rintro en w' ⟨v, ys, c', e', h1, h2, _, h4, h5⟩
        rw [htl] at h1
        obtain ⟨rfl, rfl, rfl⟩ : xs = ys ∧ c = c' ∧ 0 = e' := by simpa using h1
        obtain ⟨ao, cap, rfl⟩ := shape h4
        exact ⟨ao, cap, h2, srow_own h4, h5⟩
      · intro v w hS
        have := list_any v xs (by omega) (fun x hx => by have := k2 x hx; omega) w hS
        rw [lsV_ok xs k1 k2, ← k4] at this
        rwa [strV_extract, Nat.add_sub_cancel_left]
      · intro w
        have hx := extract_all s (a + c - 1) (by omega)
        have := takeList_any (s.extract 0 (a + c - 1)) a (by rw [hx.2]; omega) (by rw [hx.2]; omega) w
        rw [hx.1, take_drop_at _ _ _ (by omega), show a + c - 1 - a = c - 1 by omega] at this
        refine this.mono ?_
        rintro en w' ⟨v, ys, c', e', h1, h2, _, h4, h5⟩
        rw [k7 (c - 1) (by omega)] at h1
        obtain ⟨rfl, rfl, rfl⟩ : ([] : List (List UInt8)) = ys ∧ 0 = c' ∧ 31 = e' := by simpa using h1
        obtain ⟨ao, cap, rfl⟩ := shape h4
        exact ⟨ao, _, cap, h2, h5⟩
    · refine Or.inl ⟨0, e, by omega, fun w => (c1 w).mono ?_⟩
      rintro en w' ⟨v, ys, c', e', h1, h2, _, h4, h5⟩
      rw [htl] at h1
      obtain ⟨rfl, rfl, rfl⟩ : xs = ys ∧ c = c' ∧ e = e' := by simpa using h1
      rw [if_neg he] at h2
      obtain ⟨ao, cap, rfl⟩ := shape h4
      exact ⟨ao, _, cap, h2, h5⟩

set_option maxRecDepth 100000 in
set_option maxHeartbeats 4000000 in
theorem packOneForm_walk (s : ByteArray) (at_ : Int) (hs : s.size ≤ 140737488355328) (hat : -9223372036854775808 ≤ at_ ∧ at_ ≤ 9223372036854775807) (w : World) :
    Calls Try.prog 8 #[.string s, .int .i64 at_] w fun e w' => e = .returned (.bool true) ∧ Below w.heap.size w w' := by
  have F1 := form_num s at_ (by omega) hat
  have F2 := form_list s at_ (by omega) hat
  rcases F1 with ⟨n, p, e, he, a1⟩ | ⟨a, n, p, rfl, hap, hps, a1, a2, a3⟩
  · have A1 : Hid (∀ w, Calls Try.prog 18 #[.string s, .int .i64 at_] w fun en w' => en = .returned (.tuple #[.int .i64 n, .int .i64 p, .int .i64 e]) ∧ w' = w) := a1
    clear a1
    rcases F2 with ⟨p2, e2, he2, b1⟩ | ⟨a, p2, xs, rfl, hap2, hps2, b1, b2, b3⟩
    · have B1 : Hid (∀ w, Calls Try.prog 22 #[.string s, .int .i64 at_] w fun en w' => ∃ ao n cap, en = .returned (.tuple #[.slice ao n cap, .int .i64 p2, .int .i64 e2]) ∧ Below w.heap.size w w') := b1
      clear b1
      go_enter Try.func8, Try.ntmps8
      go_wp2_with fail
      refine (A1.out _).mono ?_
      rintro e w1 ⟨rfl, hw1⟩
      rw [hw1]; clear hw1 w1
      go_wp2_with fail
      refine (B1.out _).mono ?_
      rintro e w2 ⟨ao, n2, cap, rfl, hb2⟩
      go_wp2_with fail
      refine (live_any _).mono ?_
      rintro e w5 ⟨rfl, hb5⟩
      go_wp2
      go_ret
      have k2 : Below w.heap.size w w2 := hb2
      exact ⟨rfl, k2.trans (hb5.mono k2.size)⟩
    · obtain ⟨q2, rfl⟩ : ∃ q2, p2 = q2 + 1 := ⟨p2 - 1, by omega⟩
      rw [Nat.add_sub_cancel] at b3
      have B1 : Hid (∀ w, Calls Try.prog 22 #[.string s, .int .i64 (a : Int)] w fun en w' => ∃ ao cap, en = .returned (.tuple #[.slice ao xs.length cap, .int .i64 ((q2 : Int) + 1), .int .i64 0]) ∧ SRow w' (.slice ao xs.length cap) xs ∧ Below w.heap.size w w') := b1
      have B2 : Hid (∀ v w, SRow w v xs → Calls Try.prog 15 #[v] w fun en w' => en = .returned (.tuple #[.string (s.extract a (q2 + 1)), .int .i64 0]) ∧ Below w.heap.size w w') := b2
      have B3 : Hid (∀ w, Calls Try.prog 22 #[.string (s.extract 0 q2), .int .i64 (a : Int)] w fun en w' => ∃ ao n cap, en = .returned (.tuple #[.slice ao n cap, .int .i64 0, .int .i64 31]) ∧ Below w.heap.size w w') := b3
      have r1 : ¬ ((q2 : Int) + 1 ≤ (a : Int)) := by omega
      have r2 : ¬ ((s.size : Int) < (q2 : Int) + 1) := by omega
      clear b1 b2 b3
      go_enter Try.func8, Try.ntmps8
      go_wp2_with fail
      refine (A1.out _).mono ?_
      rintro e w1 ⟨rfl, hw1⟩
      rw [hw1]; clear hw1 w1
      go_wp2_with fail
      refine (B1.out _).mono ?_
      rintro e w2 ⟨ao, cap, rfl, hS2, hb2⟩
      have HS2 : Hid (SRow w2 (.slice ao xs.length cap) xs) := hS2
      clear hS2
      go_wp2_with fail
      refine (B2.out _ _ HS2.out).mono ?_
      rintro e w3 ⟨rfl, hb3⟩
      go_wp2_with fail
      refine (B3.out _).mono ?_
      rintro e w4 ⟨ao4, n4, cap4, rfl, hb4⟩
      go_wp2_with fail
      refine (live_any _).mono ?_
      rintro e w5 ⟨rfl, hb5⟩
      go_wp2
      go_ret
      have k2 : Below w.heap.size w w2 := hb2
      have k3 := k2.trans (hb3.mono k2.size)
      have k4 := k3.trans (hb4.mono k3.size)
      exact ⟨rfl, k4.trans (hb5.mono k4.size)⟩
  · obtain ⟨q, rfl⟩ : ∃ q, p = q + 1 := ⟨p - 1, by omega⟩
    rw [Nat.add_sub_cancel] at a3
    have A1 : Hid (∀ w, Calls Try.prog 18 #[.string s, .int .i64 (a : Int)] w fun en w' => en = .returned (.tuple #[.int .i64 (n : Int), .int .i64 ((q : Int) + 1), .int .i64 0]) ∧ w' = w) := a1
    have A2 : Hid (∀ w, Calls Try.prog 9 #[.int .i64 (n : Int)] w fun en w' => en = .returned (.tuple #[.string (s.extract a (q + 1)), .int .i64 0]) ∧ Below w.heap.size w w') := a2
    have A3 : Hid (∀ w, Calls Try.prog 18 #[.string (s.extract 0 q), .int .i64 (a : Int)] w fun en w' => en = .returned (.tuple #[.int .i64 0, .int .i64 0, .int .i64 31]) ∧ w' = w) := a3
    have t1 : ¬ ((q : Int) + 1 ≤ (a : Int)) := by omega
    have t2 : ¬ ((s.size : Int) < (q : Int) + 1) := by omega
    clear a1 a2 a3
    rcases F2 with ⟨p2, e2, he2, b1⟩ | ⟨a', p2, xs, ha', hap2, hps2, b1, b2, b3⟩
    · have B1 : Hid (∀ w, Calls Try.prog 22 #[.string s, .int .i64 (a : Int)] w fun en w' => ∃ ao n cap, en = .returned (.tuple #[.slice ao n cap, .int .i64 p2, .int .i64 e2]) ∧ Below w.heap.size w w') := b1
      clear b1
      go_enter Try.func8, Try.ntmps8
      go_wp2_with fail
      refine (A1.out _).mono ?_
      rintro e w1 ⟨rfl, hw1⟩
      rw [hw1]; clear hw1 w1
      go_wp2_with fail
      refine (A2.out _).mono ?_
      rintro e w1 ⟨rfl, hb1⟩
      go_wp2_with fail
      refine (A3.out _).mono ?_
      rintro e w1' ⟨rfl, hw1⟩
      rw [hw1]; clear hw1 w1'
      go_wp2_with fail
      refine (B1.out _).mono ?_
      rintro e w2 ⟨ao, n2, cap, rfl, hb2⟩
      go_wp2_with fail
      refine (live_any _).mono ?_
      rintro e w5 ⟨rfl, hb5⟩
      go_wp2
      go_ret
      have k2 : Below w.heap.size w w2 := hb1.trans (hb2.mono hb1.size)
      exact ⟨rfl, k2.trans (hb5.mono k2.size)⟩
    · obtain rfl : a = a' := by omega
      clear ha'
      obtain ⟨q2, rfl⟩ : ∃ q2, p2 = q2 + 1 := ⟨p2 - 1, by omega⟩
      rw [Nat.add_sub_cancel] at b3
      have B1 : Hid (∀ w, Calls Try.prog 22 #[.string s, .int .i64 (a : Int)] w fun en w' => ∃ ao cap, en = .returned (.tuple #[.slice ao xs.length cap, .int .i64 ((q2 : Int) + 1), .int .i64 0]) ∧ SRow w' (.slice ao xs.length cap) xs ∧ Below w.heap.size w w') := b1
      have B2 : Hid (∀ v w, SRow w v xs → Calls Try.prog 15 #[v] w fun en w' => en = .returned (.tuple #[.string (s.extract a (q2 + 1)), .int .i64 0]) ∧ Below w.heap.size w w') := b2
      have B3 : Hid (∀ w, Calls Try.prog 22 #[.string (s.extract 0 q2), .int .i64 (a : Int)] w fun en w' => ∃ ao n cap, en = .returned (.tuple #[.slice ao n cap, .int .i64 0, .int .i64 31]) ∧ Below w.heap.size w w') := b3
      have r1 : ¬ ((q2 : Int) + 1 ≤ (a : Int)) := by omega
      have r2 : ¬ ((s.size : Int) < (q2 : Int) + 1) := by omega
      clear b1 b2 b3
      go_enter Try.func8, Try.ntmps8
      go_wp2_with fail
      refine (A1.out _).mono ?_
      rintro e w1 ⟨rfl, hw1⟩
      rw [hw1]; clear hw1 w1
      go_wp2_with fail
      refine (A2.out _).mono ?_
      rintro e w1 ⟨rfl, hb1⟩
      go_wp2_with fail
      refine (A3.out _).mono ?_
      rintro e w1' ⟨rfl, hw1⟩
      rw [hw1]; clear hw1 w1'
      go_wp2_with fail
      refine (B1.out _).mono ?_
      rintro e w2 ⟨ao, cap, rfl, hS2, hb2⟩
      have HS2 : Hid (SRow w2 (.slice ao xs.length cap) xs) := hS2
      clear hS2
      go_wp2_with fail
      refine (B2.out _ _ HS2.out).mono ?_
      rintro e w3 ⟨rfl, hb3⟩
      go_wp2_with fail
      refine (B3.out _).mono ?_
      rintro e w4 ⟨ao4, n4, cap4, rfl, hb4⟩
      go_wp2_with fail
      refine (live_any _).mono ?_
      rintro e w5 ⟨rfl, hb5⟩
      go_wp2
      go_ret
      have k2 : Below w.heap.size w w2 := hb1.trans (hb2.mono hb1.size)
      have k3 := k2.trans (hb3.mono k2.size)
      have k4 := k3.trans (hb4.mono k3.size)
      exact ⟨rfl, k4.trans (hb5.mono k4.size)⟩
end Go.Proofs.Ytkljnihcjialaaa
