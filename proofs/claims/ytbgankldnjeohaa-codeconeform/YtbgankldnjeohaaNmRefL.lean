/- The walk of the document's own reading of a rune: the loop. -/
import Derived.Test.YtbgankldnjeohaaNmRefN
set_option linter.unusedVariables false
set_option maxRecDepth 100000
namespace Go.Proofs.Ytbgankldnjeohaa.Nm
open Go.RowKit

set_option maxRecDepth 100000 in
set_option maxHeartbeats 1000000 in
theorem next_l2 (s : ByteArray) (a : Nat) (ha : a < s.size) (hs : s.size ≤ 140737488351232) (w : World) (h2 : NameMath.longN (NameMath.byt (s.data.toList.drop a) 0) = 2) (hsh : ¬ s.size - a < 2) : NextSays s a w := by
  have hg0 : (s[a]'ha).toNat = NameMath.byt (s.data.toList.drop a) 0 := (byt_at s a 0 (by omega)).symm
  have haI : (a : Int) < (s.size : Int) := by omega
  have hlt := NameMath.byt_lt (s.data.toList.drop a) 0
  have hL := NameMath.long_cases (NameMath.byt (s.data.toList.drop a) 0)
  have hD : NameMath.okFor (NameMath.dec (s.data.toList.drop a)) (NameMath.nxF (s.data.toList.drop a) 2 1 1 (NameMath.byt (s.data.toList.drop a) 0 % 32)) := NameMath.nx2 _ h2
  have k1 : a + 1 < s.size := by omega
  have g1 : (s[a + 1]'k1).toNat = NameMath.byt (s.data.toList.drop a) 1 := (byt_at s a 1 k1).symm
  have l1 := NameMath.byt_lt (s.data.toList.drop a) 1
  have i1 : (a : Int) + 1 < (s.size : Int) := by omega
  unfold NextSays
  generalize s.data.toList.drop a = L at *
  have HD : Hid (NameMath.okFor (NameMath.dec L) (NameMath.nxF L 2 1 1 (NameMath.byt L 0 % 32))) := hD
  have HL : Hid (NameMath.longN (NameMath.byt L 0) = 2) := h2
  clear hD hL h2
  have hm0 : NameMath.byt L 0 % 32 < 32 := by omega
  go_enter Try.func35, Try.ntmps35
  go_wp2_with fail
  refine (long_any _ hlt _).mono ?_
  rintro e w1 ⟨rfl, rfl⟩
  rw [HL.out]
  go_wp2
  go_loop [9, 10, 11] (fun r i _ => ∃ (j q : Nat), i = .int .i64 j ∧ r = .int .i64 q ∧ ((j = 1 ∧ q < 32) ∨ (j = 2 ∧ q < 2048) ∨ (j = 3 ∧ q < 131072) ∨ (j = 4 ∧ q < 8388608)) ∧ j ≤ 2 ∧
      Hid (NameMath.nxF L 2 1 1 (NameMath.byt L 0 % 32) = NameMath.nxF L 2 (2 - j) j q)) (fun _ i _ => 4 - (intOf i).toNat)
  case atStart => exact ⟨1, NameMath.byt L 0 % 32, rfl, by go_num, .inl ⟨rfl, hm0⟩, by decide, rfl⟩
  case round =>
    obtain ⟨j, q, rfl, rfl, hq, hjn, HI⟩ := hrel
    rcases hq with ⟨rfl, hq⟩ | ⟨rfl, hq⟩ | ⟨rfl, hq⟩ | ⟨rfl, hq⟩
    · by_cases hlo : NameMath.byt L 1 < 128
      · have HE : Hid (NameMath.dec L = (65533, 1)) := (okFor_of HD.out (HI.out.trans (NameMath.nx_bad L 2 0 1 q (.inl hlo)))).1
        clear HI HD
        go_wp2_with (go_at_call 41; refine (second_any _ _ _).mono ?_; rintro e w' ⟨rfl, rfl⟩)
        go_ret3
        exact nextPost HE.out (fun h => rfl)
      · by_cases hhi : 191 < NameMath.byt L 1
        · have HE : Hid (NameMath.dec L = (65533, 1)) := (okFor_of HD.out (HI.out.trans (NameMath.nx_bad L 2 0 1 q (.inr (.inl hhi))))).1
          clear HI HD
          go_wp2_with (go_at_call 41; refine (second_any _ _ _).mono ?_; rintro e w' ⟨rfl, rfl⟩)
          go_ret3
          exact nextPost HE.out (fun h => rfl)
        · cases hsec : NameMath.secondB (NameMath.byt L 0) (NameMath.byt L 1) with
          | false =>
            have HE : Hid (NameMath.dec L = (65533, 1)) := (okFor_of HD.out (HI.out.trans (NameMath.nx_bad L 2 0 1 q (.inr (.inr ⟨rfl, hsec⟩))))).1
            clear HI HD
            go_wp2_with (go_at_call 41; refine (second_any _ _ _).mono ?_; rintro e w' ⟨rfl, rfl⟩)
            go_ret3
            exact nextPost HE.out (fun h => rfl)
          | true =>
            have HE : Hid (NameMath.nxF L 2 1 1 (NameMath.byt L 0 % 32) = NameMath.nxF L 2 (2 - 2) 2 (q * 64 + NameMath.byt L 1 % 64)) := HI.out.trans (NameMath.nx_good L 2 0 1 q (fun h => h.elim hlo (fun h => h.elim hhi (fun h => by rw [hsec] at h; cases h.2))))
            clear HI HD
            go_wp2_with (go_at_call 41; refine (second_any _ _ _).mono ?_; rintro e w' ⟨rfl, rfl⟩)
            go_round
            case rel => exact ⟨2, q * 64 + NameMath.byt L 1 % 64, by go_num, by go_num, .inr (.inl ⟨rfl, by omega⟩), by decide, HE⟩
            case measure => simp [intOf]
    · have HE : Hid (NameMath.dec L = (q, 2)) := (okFor_of HD.out (HI.out.trans (show NameMath.nxF L 2 0 2 q = (q, 2, true) from rfl))).1
      clear HI HD
      go_wp2
      go_ret3
      exact nextPost HE.out (fun h => by cases h)
    · omega
    · omega

set_option maxRecDepth 100000 in
set_option maxHeartbeats 1000000 in
theorem next_l3 (s : ByteArray) (a : Nat) (ha : a < s.size) (hs : s.size ≤ 140737488351232) (w : World) (h2 : NameMath.longN (NameMath.byt (s.data.toList.drop a) 0) = 3) (hsh : ¬ s.size - a < 3) : NextSays s a w := by
  have hg0 : (s[a]'ha).toNat = NameMath.byt (s.data.toList.drop a) 0 := (byt_at s a 0 (by omega)).symm
  have haI : (a : Int) < (s.size : Int) := by omega
  have hlt := NameMath.byt_lt (s.data.toList.drop a) 0
  have hL := NameMath.long_cases (NameMath.byt (s.data.toList.drop a) 0)
  have hD : NameMath.okFor (NameMath.dec (s.data.toList.drop a)) (NameMath.nxF (s.data.toList.drop a) 3 2 1 (NameMath.byt (s.data.toList.drop a) 0 % 16)) := NameMath.nx3 _ h2
  have k1 : a + 1 < s.size := by omega
  have g1 : (s[a + 1]'k1).toNat = NameMath.byt (s.data.toList.drop a) 1 := (byt_at s a 1 k1).symm
  have l1 := NameMath.byt_lt (s.data.toList.drop a) 1
  have i1 : (a : Int) + 1 < (s.size : Int) := by omega
  have k2 : a + 2 < s.size := by omega
  have g2 : (s[a + 2]'k2).toNat = NameMath.byt (s.data.toList.drop a) 2 := (byt_at s a 2 k2).symm
  have l2 := NameMath.byt_lt (s.data.toList.drop a) 2
  have i2 : (a : Int) + 2 < (s.size : Int) := by omega
  unfold NextSays
  generalize s.data.toList.drop a = L at *
  have HD : Hid (NameMath.okFor (NameMath.dec L) (NameMath.nxF L 3 2 1 (NameMath.byt L 0 % 16))) := hD
  have HL : Hid (NameMath.longN (NameMath.byt L 0) = 3) := h2
  clear hD hL h2
  have hm0 : NameMath.byt L 0 % 16 < 32 := by omega
  go_enter Try.func35, Try.ntmps35
  go_wp2_with fail
  refine (long_any _ hlt _).mono ?_
  rintro e w1 ⟨rfl, rfl⟩
  rw [HL.out]
  go_wp2
  go_loop [9, 10, 11] (fun r i _ => ∃ (j q : Nat), i = .int .i64 j ∧ r = .int .i64 q ∧ ((j = 1 ∧ q < 32) ∨ (j = 2 ∧ q < 2048) ∨ (j = 3 ∧ q < 131072) ∨ (j = 4 ∧ q < 8388608)) ∧ j ≤ 3 ∧
      Hid (NameMath.nxF L 3 2 1 (NameMath.byt L 0 % 16) = NameMath.nxF L 3 (3 - j) j q)) (fun _ i _ => 4 - (intOf i).toNat)
  case atStart => exact ⟨1, NameMath.byt L 0 % 16, rfl, by go_num, .inl ⟨rfl, hm0⟩, by decide, rfl⟩
  case round =>
    obtain ⟨j, q, rfl, rfl, hq, hjn, HI⟩ := hrel
    rcases hq with ⟨rfl, hq⟩ | ⟨rfl, hq⟩ | ⟨rfl, hq⟩ | ⟨rfl, hq⟩
    · by_cases hlo : NameMath.byt L 1 < 128
      · have HE : Hid (NameMath.dec L = (65533, 1)) := (okFor_of HD.out (HI.out.trans (NameMath.nx_bad L 3 1 1 q (.inl hlo)))).1
        clear HI HD
        go_wp2_with (go_at_call 41; refine (second_any _ _ _).mono ?_; rintro e w' ⟨rfl, rfl⟩)
        go_ret3
        exact nextPost HE.out (fun h => rfl)
      · by_cases hhi : 191 < NameMath.byt L 1
        · have HE : Hid (NameMath.dec L = (65533, 1)) := (okFor_of HD.out (HI.out.trans (NameMath.nx_bad L 3 1 1 q (.inr (.inl hhi))))).1
          clear HI HD
          go_wp2_with (go_at_call 41; refine (second_any _ _ _).mono ?_; rintro e w' ⟨rfl, rfl⟩)
          go_ret3
          exact nextPost HE.out (fun h => rfl)
        · cases hsec : NameMath.secondB (NameMath.byt L 0) (NameMath.byt L 1) with
          | false =>
            have HE : Hid (NameMath.dec L = (65533, 1)) := (okFor_of HD.out (HI.out.trans (NameMath.nx_bad L 3 1 1 q (.inr (.inr ⟨rfl, hsec⟩))))).1
            clear HI HD
            go_wp2_with (go_at_call 41; refine (second_any _ _ _).mono ?_; rintro e w' ⟨rfl, rfl⟩)
            go_ret3
            exact nextPost HE.out (fun h => rfl)
          | true =>
            have HE : Hid (NameMath.nxF L 3 2 1 (NameMath.byt L 0 % 16) = NameMath.nxF L 3 (3 - 2) 2 (q * 64 + NameMath.byt L 1 % 64)) := HI.out.trans (NameMath.nx_good L 3 1 1 q (fun h => h.elim hlo (fun h => h.elim hhi (fun h => by rw [hsec] at h; cases h.2))))
            clear HI HD
            go_wp2_with (go_at_call 41; refine (second_any _ _ _).mono ?_; rintro e w' ⟨rfl, rfl⟩)
            go_round
            case rel => exact ⟨2, q * 64 + NameMath.byt L 1 % 64, by go_num, by go_num, .inr (.inl ⟨rfl, by omega⟩), by decide, HE⟩
            case measure => simp [intOf]
    · by_cases hlo : NameMath.byt L 2 < 128
      · have HE : Hid (NameMath.dec L = (65533, 1)) := (okFor_of HD.out (HI.out.trans (NameMath.nx_bad L 3 0 2 q (.inl hlo)))).1
        clear HI HD
        go_wp2
        go_ret3
        exact nextPost HE.out (fun h => rfl)
      · by_cases hhi : 191 < NameMath.byt L 2
        · have HE : Hid (NameMath.dec L = (65533, 1)) := (okFor_of HD.out (HI.out.trans (NameMath.nx_bad L 3 0 2 q (.inr (.inl hhi))))).1
          clear HI HD
          go_wp2
          go_ret3
          exact nextPost HE.out (fun h => rfl)
        · have HE : Hid (NameMath.nxF L 3 2 1 (NameMath.byt L 0 % 16) = NameMath.nxF L 3 (3 - 3) 3 (q * 64 + NameMath.byt L 2 % 64)) := HI.out.trans (NameMath.nx_good L 3 0 2 q (fun h => h.elim hlo (fun h => h.elim hhi (fun h => absurd h.1 (by decide)))))
          clear HI HD
          go_wp2
          go_round
          case rel => exact ⟨3, q * 64 + NameMath.byt L 2 % 64, by go_num, by go_num, .inr (.inr (.inl ⟨rfl, by omega⟩)), by decide, HE⟩
          case measure => simp [intOf]
    · have HE : Hid (NameMath.dec L = (q, 3)) := (okFor_of HD.out (HI.out.trans (show NameMath.nxF L 3 0 3 q = (q, 3, true) from rfl))).1
      clear HI HD
      go_wp2
      go_ret3
      exact nextPost HE.out (fun h => by cases h)
    · omega

set_option maxRecDepth 100000 in
set_option maxHeartbeats 1000000 in
theorem next_l4 (s : ByteArray) (a : Nat) (ha : a < s.size) (hs : s.size ≤ 140737488351232) (w : World) (h2 : NameMath.longN (NameMath.byt (s.data.toList.drop a) 0) = 4) (hsh : ¬ s.size - a < 4) : NextSays s a w := by
  have hg0 : (s[a]'ha).toNat = NameMath.byt (s.data.toList.drop a) 0 := (byt_at s a 0 (by omega)).symm
  have haI : (a : Int) < (s.size : Int) := by omega
  have hlt := NameMath.byt_lt (s.data.toList.drop a) 0
  have hL := NameMath.long_cases (NameMath.byt (s.data.toList.drop a) 0)
  have hD : NameMath.okFor (NameMath.dec (s.data.toList.drop a)) (NameMath.nxF (s.data.toList.drop a) 4 3 1 (NameMath.byt (s.data.toList.drop a) 0 % 8)) := NameMath.nx4 _ h2
  have k1 : a + 1 < s.size := by omega
  have g1 : (s[a + 1]'k1).toNat = NameMath.byt (s.data.toList.drop a) 1 := (byt_at s a 1 k1).symm
  have l1 := NameMath.byt_lt (s.data.toList.drop a) 1
  have i1 : (a : Int) + 1 < (s.size : Int) := by omega
  have k2 : a + 2 < s.size := by omega
  have g2 : (s[a + 2]'k2).toNat = NameMath.byt (s.data.toList.drop a) 2 := (byt_at s a 2 k2).symm
  have l2 := NameMath.byt_lt (s.data.toList.drop a) 2
  have i2 : (a : Int) + 2 < (s.size : Int) := by omega
  have k3 : a + 3 < s.size := by omega
  have g3 : (s[a + 3]'k3).toNat = NameMath.byt (s.data.toList.drop a) 3 := (byt_at s a 3 k3).symm
  have l3 := NameMath.byt_lt (s.data.toList.drop a) 3
  have i3 : (a : Int) + 3 < (s.size : Int) := by omega
  unfold NextSays
  generalize s.data.toList.drop a = L at *
  have HD : Hid (NameMath.okFor (NameMath.dec L) (NameMath.nxF L 4 3 1 (NameMath.byt L 0 % 8))) := hD
  have HL : Hid (NameMath.longN (NameMath.byt L 0) = 4) := h2
  clear hD hL h2
  have hm0 : NameMath.byt L 0 % 8 < 32 := by omega
  go_enter Try.func35, Try.ntmps35
  go_wp2_with fail
  refine (long_any _ hlt _).mono ?_
  rintro e w1 ⟨rfl, rfl⟩
  rw [HL.out]
  go_wp2
  go_loop [9, 10, 11] (fun r i _ => ∃ (j q : Nat), i = .int .i64 j ∧ r = .int .i64 q ∧ ((j = 1 ∧ q < 32) ∨ (j = 2 ∧ q < 2048) ∨ (j = 3 ∧ q < 131072) ∨ (j = 4 ∧ q < 8388608)) ∧ j ≤ 4 ∧
      Hid (NameMath.nxF L 4 3 1 (NameMath.byt L 0 % 8) = NameMath.nxF L 4 (4 - j) j q)) (fun _ i _ => 4 - (intOf i).toNat)
  case atStart => exact ⟨1, NameMath.byt L 0 % 8, rfl, by go_num, .inl ⟨rfl, hm0⟩, by decide, rfl⟩
  case round =>
    obtain ⟨j, q, rfl, rfl, hq, hjn, HI⟩ := hrel
    rcases hq with ⟨rfl, hq⟩ | ⟨rfl, hq⟩ | ⟨rfl, hq⟩ | ⟨rfl, hq⟩
    · by_cases hlo : NameMath.byt L 1 < 128
      · have HE : Hid (NameMath.dec L = (65533, 1)) := (okFor_of HD.out (HI.out.trans (NameMath.nx_bad L 4 2 1 q (.inl hlo)))).1
        clear HI HD
        go_wp2_with (go_at_call 41; refine (second_any _ _ _).mono ?_; rintro e w' ⟨rfl, rfl⟩)
        go_ret3
        exact nextPost HE.out (fun h => rfl)
      · by_cases hhi : 191 < NameMath.byt L 1
        · have HE : Hid (NameMath.dec L = (65533, 1)) := (okFor_of HD.out (HI.out.trans (NameMath.nx_bad L 4 2 1 q (.inr (.inl hhi))))).1
          clear HI HD
          go_wp2_with (go_at_call 41; refine (second_any _ _ _).mono ?_; rintro e w' ⟨rfl, rfl⟩)
          go_ret3
          exact nextPost HE.out (fun h => rfl)
        · cases hsec : NameMath.secondB (NameMath.byt L 0) (NameMath.byt L 1) with
          | false =>
            have HE : Hid (NameMath.dec L = (65533, 1)) := (okFor_of HD.out (HI.out.trans (NameMath.nx_bad L 4 2 1 q (.inr (.inr ⟨rfl, hsec⟩))))).1
            clear HI HD
            go_wp2_with (go_at_call 41; refine (second_any _ _ _).mono ?_; rintro e w' ⟨rfl, rfl⟩)
            go_ret3
            exact nextPost HE.out (fun h => rfl)
          | true =>
            have HE : Hid (NameMath.nxF L 4 3 1 (NameMath.byt L 0 % 8) = NameMath.nxF L 4 (4 - 2) 2 (q * 64 + NameMath.byt L 1 % 64)) := HI.out.trans (NameMath.nx_good L 4 2 1 q (fun h => h.elim hlo (fun h => h.elim hhi (fun h => by rw [hsec] at h; cases h.2))))
            clear HI HD
            go_wp2_with (go_at_call 41; refine (second_any _ _ _).mono ?_; rintro e w' ⟨rfl, rfl⟩)
            go_round
            case rel => exact ⟨2, q * 64 + NameMath.byt L 1 % 64, by go_num, by go_num, .inr (.inl ⟨rfl, by omega⟩), by decide, HE⟩
            case measure => simp [intOf]
    · by_cases hlo : NameMath.byt L 2 < 128
      · have HE : Hid (NameMath.dec L = (65533, 1)) := (okFor_of HD.out (HI.out.trans (NameMath.nx_bad L 4 1 2 q (.inl hlo)))).1
        clear HI HD
        go_wp2
        go_ret3
        exact nextPost HE.out (fun h => rfl)
      · by_cases hhi : 191 < NameMath.byt L 2
        · have HE : Hid (NameMath.dec L = (65533, 1)) := (okFor_of HD.out (HI.out.trans (NameMath.nx_bad L 4 1 2 q (.inr (.inl hhi))))).1
          clear HI HD
          go_wp2
          go_ret3
          exact nextPost HE.out (fun h => rfl)
        · have HE : Hid (NameMath.nxF L 4 3 1 (NameMath.byt L 0 % 8) = NameMath.nxF L 4 (4 - 3) 3 (q * 64 + NameMath.byt L 2 % 64)) := HI.out.trans (NameMath.nx_good L 4 1 2 q (fun h => h.elim hlo (fun h => h.elim hhi (fun h => absurd h.1 (by decide)))))
          clear HI HD
          go_wp2
          go_round
          case rel => exact ⟨3, q * 64 + NameMath.byt L 2 % 64, by go_num, by go_num, .inr (.inr (.inl ⟨rfl, by omega⟩)), by decide, HE⟩
          case measure => simp [intOf]
    · by_cases hlo : NameMath.byt L 3 < 128
      · have HE : Hid (NameMath.dec L = (65533, 1)) := (okFor_of HD.out (HI.out.trans (NameMath.nx_bad L 4 0 3 q (.inl hlo)))).1
        clear HI HD
        go_wp2
        go_ret3
        exact nextPost HE.out (fun h => rfl)
      · by_cases hhi : 191 < NameMath.byt L 3
        · have HE : Hid (NameMath.dec L = (65533, 1)) := (okFor_of HD.out (HI.out.trans (NameMath.nx_bad L 4 0 3 q (.inr (.inl hhi))))).1
          clear HI HD
          go_wp2
          go_ret3
          exact nextPost HE.out (fun h => rfl)
        · have HE : Hid (NameMath.nxF L 4 3 1 (NameMath.byt L 0 % 8) = NameMath.nxF L 4 (4 - 4) 4 (q * 64 + NameMath.byt L 3 % 64)) := HI.out.trans (NameMath.nx_good L 4 0 3 q (fun h => h.elim hlo (fun h => h.elim hhi (fun h => absurd h.1 (by decide)))))
          clear HI HD
          go_wp2
          go_round
          case rel => exact ⟨4, q * 64 + NameMath.byt L 3 % 64, by go_num, by go_num, .inr (.inr (.inr ⟨rfl, by omega⟩)), by decide, HE⟩
          case measure => simp [intOf]
    · have HE : Hid (NameMath.dec L = (q, 4)) := (okFor_of HD.out (HI.out.trans (show NameMath.nxF L 4 0 4 q = (q, 4, true) from rfl))).1
      clear HI HD
      go_wp2
      go_ret3
      exact nextPost HE.out (fun h => by cases h)

theorem next_any (s : ByteArray) (a : Nat) (ha : a < s.size) (hs : s.size ≤ 140737488351232) (w : World) : NextSays s a w := by
  rcases NameMath.long_cases (NameMath.byt (s.data.toList.drop a) 0) with ⟨h1, h2⟩ | ⟨h1, h1', h2⟩ | ⟨h1, h1', h2⟩ | ⟨h1, h1', h2⟩ | ⟨h1, h2⟩
  · exact next_1 s a ha hs w h1
  · by_cases h : s.size - a < 2
    · exact next_s2 s a ha hs w h2 h
    · exact next_l2 s a ha hs w h2 h
  · by_cases h : s.size - a < 3
    · exact next_s3 s a ha hs w h2 h
    · exact next_l3 s a ha hs w h2 h
  · by_cases h : s.size - a < 4
    · exact next_s4 s a ha hs w h2 h
    · exact next_l4 s a ha hs w h2 h
  · exact next_0 s a ha hs w h2
end Go.Proofs.Ytbgankldnjeohaa.Nm