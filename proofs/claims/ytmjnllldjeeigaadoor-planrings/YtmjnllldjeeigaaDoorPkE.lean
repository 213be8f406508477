/- The texts NmRefL, NmRefIs, NmWordsW, NmRefRunes, NmRefOwn, RefYW, RefAW, RefKW, SoundM, one behind the other. -/
import Derived.Test.YtmjnllldjeeigaaDoorPkD
import Derived.OwnWalk
import Derived.Deep.DeepMust
import Derived.WalkSmall
import Derived.Laws.OwnMore
import Derived.Deep.QuietTactic
import Derived.BigQuiet
import Derived.Laws.MakeOwn
/- The walk of the document's own reading of a rune: the loop. -/
set_option linter.unusedVariables false
set_option maxRecDepth 100000
namespace Go.Proofs.YtmjnllldjeeigaaDoor.Nm
open Go.RowKit

set_option maxRecDepth 100000 in
set_option maxHeartbeats 1000000 in
theorem next_l2 (s : ByteArray) (a : Nat) (ha : a < s.size) (hs : s.size ≤ 140737488351232) (w : World) (h2 : NameMath.longN (NameMath.byt (s.data.toList.drop a) 0) = 2) (hsh : ¬ s.size - a < 2) : NextSays s a w := by
  have hg0 : (s[a]'ha).toNat = NameMath.byt (s.data.toList.drop a) 0 := (byt_at s a 0 (by omega)).symm
  have haI : (a : Int) < (s.size : Int) := by omega
  have hlt := NameMath.byt_lt (s.data.toList.drop a) 0
  have hL := NameMath.long_cases (NameMath.byt (s.data.toList.drop a) 0)
  have hD : NameMath.okFor (NameMath.dec (s.data.toList.drop a)) (NameMath.nxF (s.data.toList.drop a) 2 1 1 (NameMath.byt (s.data.toList.drop a) 0 % 32)) := NameMath.nx2 _ h2
  have k1 : a + 1 < s.size := by omega
  have g1 : (s[a + 1]'k1).toNat = NameMath.byt (s.data.toList.drop a) 1 := (byt_at s a 1 k1).symm
  have l1 := NameMath.byt_lt (s.data.toList.drop a) 1
  have i1 : (a : Int) + 1 < (s.size : Int) := by omega
  unfold NextSays
  generalize s.data.toList.drop a = L at *
  have HD : Hid (NameMath.okFor (NameMath.dec L) (NameMath.nxF L 2 1 1 (NameMath.byt L 0 % 32))) := hD
  have HL : Hid (NameMath.longN (NameMath.byt L 0) = 2) := h2
  clear hD hL h2
  have hm0 : NameMath.byt L 0 % 32 < 32 := by omega
  go_enter Tryd.func53, Tryd.ntmps53
  go_wp2_with fail
  refine (long_any _ hlt _).mono ?_
  rintro e w1 ⟨rfl, rfl⟩
  rw [HL.out]
  go_wp2
  go_loop [9, 10, 11] (fun r i _ => ∃ (j q : Nat), i = .int .i64 j ∧ r = .int .i64 q ∧ ((j = 1 ∧ q < 32) ∨ (j = 2 ∧ q < 2048) ∨ (j = 3 ∧ q < 131072) ∨ (j = 4 ∧ q < 8388608)) ∧ j ≤ 2 ∧
      Hid (NameMath.nxF L 2 1 1 (NameMath.byt L 0 % 32) = NameMath.nxF L 2 (2 - j) j q)) (fun _ i _ => 4 - (intOf i).toNat)
  case atStart => exact ⟨1, NameMath.byt L 0 % 32, rfl, by go_num, .inl ⟨rfl, hm0⟩, by decide, rfl⟩
  case round =>
    obtain ⟨j, q, rfl, rfl, hq, hjn, HI⟩ := hrel
    rcases hq with ⟨rfl, hq⟩ | ⟨rfl, hq⟩ | ⟨rfl, hq⟩ | ⟨rfl, hq⟩
    · by_cases hlo : NameMath.byt L 1 < 128
      · have HE : Hid (NameMath.dec L = (65533, 1)) := (okFor_of HD.out (HI.out.trans (NameMath.nx_bad L 2 0 1 q (.inl hlo)))).1
        clear HI HD
        go_wp2_with (go_at_call 66; refine (second_any _ _ _).mono ?_; rintro e w' ⟨rfl, rfl⟩)
        go_ret3
        exact nextPost HE.out (fun h => rfl)
      · by_cases hhi : 191 < NameMath.byt L 1
        · have HE : Hid (NameMath.dec L = (65533, 1)) := (okFor_of HD.out (HI.out.trans (NameMath.nx_bad L 2 0 1 q (.inr (.inl hhi))))).1
          clear HI HD
          go_wp2_with (go_at_call 66; refine (second_any _ _ _).mono ?_; rintro e w' ⟨rfl, rfl⟩)
          go_ret3
          exact nextPost HE.out (fun h => rfl)
        · cases hsec : NameMath.secondB (NameMath.byt L 0) (NameMath.byt L 1) with
          | false =>
            have HE : Hid (NameMath.dec L = (65533, 1)) := (okFor_of HD.out (HI.out.trans (NameMath.nx_bad L 2 0 1 q (.inr (.inr ⟨rfl, hsec⟩))))).1
            clear HI HD
            go_wp2_with (go_at_call 66; refine (second_any _ _ _).mono ?_; rintro e w' ⟨rfl, rfl⟩)
            go_ret3
            exact nextPost HE.out (fun h => rfl)
          | true =>
            have HE : Hid (NameMath.nxF L 2 1 1 (NameMath.byt L 0 % 32) = NameMath.nxF L 2 (2 - 2) 2 (q * 64 + NameMath.byt L 1 % 64)) := HI.out.trans (NameMath.nx_good L 2 0 1 q (fun h => h.elim hlo (fun h => h.elim hhi (fun h => by rw [hsec] at h; cases h.2))))
            clear HI HD
            go_wp2_with (go_at_call 66; refine (second_any _ _ _).mono ?_; rintro e w' ⟨rfl, rfl⟩)
            go_round
            case rel => exact ⟨2, q * 64 + NameMath.byt L 1 % 64, by go_num, by go_num, .inr (.inl ⟨rfl, by omega⟩), by decide, HE⟩
            case measure => simp [intOf]
    · have HE : Hid (NameMath.dec L = (q, 2)) := (okFor_of HD.out (HI.out.trans (show NameMath.nxF L 2 0 2 q = (q, 2, true) from rfl))).1
      clear HI HD
      go_wp2
      go_ret3
      exact nextPost HE.out (fun h => by cases h)
    · omega
    · omega

set_option maxRecDepth 100000 in
set_option maxHeartbeats 1000000 in
theorem next_l3 (s : ByteArray) (a : Nat) (ha : a < s.size) (hs : s.size ≤ 140737488351232) (w : World) (h2 : NameMath.longN (NameMath.byt (s.data.toList.drop a) 0) = 3) (hsh : ¬ s.size - a < 3) : NextSays s a w := by
  have hg0 : (s[a]'ha).toNat = NameMath.byt (s.data.toList.drop a) 0 := (byt_at s a 0 (by omega)).symm
  have haI : (a : Int) < (s.size : Int) := by omega
  have hlt := NameMath.byt_lt (s.data.toList.drop a) 0
  have hL := NameMath.long_cases (NameMath.byt (s.data.toList.drop a) 0)
  have hD : NameMath.okFor (NameMath.dec (s.data.toList.drop a)) (NameMath.nxF (s.data.toList.drop a) 3 2 1 (NameMath.byt (s.data.toList.drop a) 0 % 16)) := NameMath.nx3 _ h2
  have k1 : a + 1 < s.size := by omega
  have g1 : (s[a + 1]'k1).toNat = NameMath.byt (s.data.toList.drop a) 1 := (byt_at s a 1 k1).symm
  have l1 := NameMath.byt_lt (s.data.toList.drop a) 1
  have i1 : (a : Int) + 1 < (s.size : Int) := by omega
  have k2 : a + 2 < s.size := by omega
  have g2 : (s[a + 2]'k2).toNat = NameMath.byt (s.data.toList.drop a) 2 := (byt_at s a 2 k2).symm
  have l2 := NameMath.byt_lt (s.data.toList.drop a) 2
  have i2 : (a : Int) + 2 < (s.size : Int) := by omega
  unfold NextSays
  generalize s.data.toList.drop a = L at *
  have HD : Hid (NameMath.okFor (NameMath.dec L) (NameMath.nxF L 3 2 1 (NameMath.byt L 0 % 16))) := hD
  have HL : Hid (NameMath.longN (NameMath.byt L 0) = 3) := h2
  clear hD hL h2
  have hm0 : NameMath.byt L 0 % 16 < 32 := by omega
  go_enter Tryd.func53, Tryd.ntmps53
  go_wp2_with fail
  refine (long_any _ hlt _).mono ?_
  rintro e w1 ⟨rfl, rfl⟩
  rw [HL.out]
  go_wp2
  go_loop [9, 10, 11] (fun r i _ => ∃ (j q : Nat), i = .int .i64 j ∧ r = .int .i64 q ∧ ((j = 1 ∧ q < 32) ∨ (j = 2 ∧ q < 2048) ∨ (j = 3 ∧ q < 131072) ∨ (j = 4 ∧ q < 8388608)) ∧ j ≤ 3 ∧
      Hid (NameMath.nxF L 3 2 1 (NameMath.byt L 0 % 16) = NameMath.nxF L 3 (3 - j) j q)) (fun _ i _ => 4 - (intOf i).toNat)
  case atStart => exact ⟨1, NameMath.byt L 0 % 16, rfl, by go_num, .inl ⟨rfl, hm0⟩, by decide, rfl⟩
  case round =>
    obtain ⟨j, q, rfl, rfl, hq, hjn, HI⟩ := hrel
    rcases hq with ⟨rfl, hq⟩ | ⟨rfl, hq⟩ | ⟨rfl, hq⟩ | ⟨rfl, hq⟩
    · by_cases hlo : NameMath.byt L 1 < 128
      · have HE : Hid (NameMath.dec L = (65533, 1)) := (okFor_of HD.out (HI.out.trans (NameMath.nx_bad L 3 1 1 q (.inl hlo)))).1
        clear HI HD
        go_wp2_with (go_at_call 66; refine (second_any _ _ _).mono ?_; rintro e w' ⟨rfl, rfl⟩)
        go_ret3
        exact nextPost HE.out (fun h => rfl)
      · by_cases hhi : 191 < NameMath.byt L 1
        · have HE : Hid (NameMath.dec L = (65533, 1)) := (okFor_of HD.out (HI.out.trans (NameMath.nx_bad L 3 1 1 q (.inr (.inl hhi))))).1
          clear HI HD
          go_wp2_with (go_at_call 66; refine (second_any _ _ _).mono ?_; rintro e w' ⟨rfl, rfl⟩)
          go_ret3
          exact nextPost HE.out (fun h => rfl)
        · cases hsec : NameMath.secondB (NameMath.byt L 0) (NameMath.byt L 1) with
          | false =>
            have HE : Hid (NameMath.dec L = (65533, 1)) := (okFor_of HD.out (HI.out.trans (NameMath.nx_bad L 3 1 1 q (.inr (.inr ⟨rfl, hsec⟩))))).1
            clear HI HD
            go_wp2_with (go_at_call 66; refine (second_any _ _ _).mono ?_; rintro e w' ⟨rfl, rfl⟩)
            go_ret3
            exact nextPost HE.out (fun h => rfl)
          | true =>
            have HE : Hid (NameMath.nxF L 3 2 1 (NameMath.byt L 0 % 16) = NameMath.nxF L 3 (3 - 2) 2 (q * 64 + NameMath.byt L 1 % 64)) := HI.out.trans (NameMath.nx_good L 3 1 1 q (fun h => h.elim hlo (fun h => h.elim hhi (fun h => by rw [hsec] at h; cases h.2))))
            clear HI HD
            go_wp2_with (go_at_call 66; refine (second_any _ _ _).mono ?_; rintro e w' ⟨rfl, rfl⟩)
            go_round
            case rel => exact ⟨2, q * 64 + NameMath.byt L 1 % 64, by go_num, by go_num, .inr (.inl ⟨rfl, by omega⟩), by decide, HE⟩
            case measure => simp [intOf]
    · by_cases hlo : NameMath.byt L 2 < 128
      · have HE : Hid (NameMath.dec L = (65533, 1)) := (okFor_of HD.out (HI.out.trans (NameMath.nx_bad L 3 0 2 q (.inl hlo)))).1
        clear HI HD
        go_wp2
        go_ret3
        exact nextPost HE.out (fun h => rfl)
      · by_cases hhi : 191 < NameMath.byt L 2
        · have HE : Hid (NameMath.dec L = (65533, 1)) := (okFor_of HD.out (HI.out.trans (NameMath.nx_bad L 3 0 2 q (.inr (.inl hhi))))).1
          clear HI HD
          go_wp2
          go_ret3
          exact nextPost HE.out (fun h => rfl)
        · have HE : Hid (NameMath.nxF L 3 2 1 (NameMath.byt L 0 % 16) = NameMath.nxF L 3 (3 - 3) 3 (q * 64 + NameMath.byt L 2 % 64)) := HI.out.trans (NameMath.nx_good L 3 0 2 q (fun h => h.elim hlo (fun h => h.elim hhi (fun h => absurd h.1 (by decide)))))
          clear HI HD
          go_wp2
          go_round
          case rel => exact ⟨3, q * 64 + NameMath.byt L 2 % 64, by go_num, by go_num, .inr (.inr (.inl ⟨rfl, by omega⟩)), by decide, HE⟩
          case measure => simp [intOf]
    · have HE : Hid (NameMath.dec L = (q, 3)) := (okFor_of HD.out (HI.out.trans (show NameMath.nxF L 3 0 3 q = (q, 3, true) from rfl))).1
      clear HI HD
      go_wp2
      go_ret3
      exact nextPost HE.out (fun h => by cases h)
    · omega

set_option maxRecDepth 100000 in
set_option maxHeartbeats 1000000 in
theorem next_l4 (s : ByteArray) (a : Nat) (ha : a < s.size) (hs : s.size ≤ 140737488351232) (w : World) (h2 : NameMath.longN (NameMath.byt (s.data.toList.drop a) 0) = 4) (hsh : ¬ s.size - a < 4) : NextSays s a w := by
  have hg0 : (s[a]'ha).toNat = NameMath.byt (s.data.toList.drop a) 0 := (byt_at s a 0 (by omega)).symm
  have haI : (a : Int) < (s.size : Int) := by omega
  have hlt := NameMath.byt_lt (s.data.toList.drop a) 0
  have hL := NameMath.long_cases (NameMath.byt (s.data.toList.drop a) 0)
  have hD : NameMath.okFor (NameMath.dec (s.data.toList.drop a)) (NameMath.nxF (s.data.toList.drop a) 4 3 1 (NameMath.byt (s.data.toList.drop a) 0 % 8)) := NameMath.nx4 _ h2
  have k1 : a + 1 < s.size := by omega
  have g1 : (s[a + 1]'k1).toNat = NameMath.byt (s.data.toList.drop a) 1 := (byt_at s a 1 k1).symm
  have l1 := NameMath.byt_lt (s.data.toList.drop a) 1
  have i1 : (a : Int) + 1 < (s.size : Int) := by omega
  have k2 : a + 2 < s.size := by omega
  have g2 : (s[a + 2]'k2).toNat = NameMath.byt (s.data.toList.drop a) 2 := (byt_at s a 2 k2).symm
  have l2 := NameMath.byt_lt (s.data.toList.drop a) 2
  have i2 : (a : Int) + 2 < (s.size : Int) := by omega
  have k3 : a + 3 < s.size := by omega
  have g3 : (s[a + 3]'k3).toNat = NameMath.byt (s.data.toList.drop a) 3 := (byt_at s a 3 k3).symm
  have l3 := NameMath.byt_lt (s.data.toList.drop a) 3
  have i3 : (a : Int) + 3 < (s.size : Int) := by omega
  unfold NextSays
  generalize s.data.toList.drop a = L at *
  have HD : Hid (NameMath.okFor (NameMath.dec L) (NameMath.nxF L 4 3 1 (NameMath.byt L 0 % 8))) := hD
  have HL : Hid (NameMath.longN (NameMath.byt L 0) = 4) := h2
  clear hD hL h2
  have hm0 : NameMath.byt L 0 % 8 < 32 := by omega
  go_enter Tryd.func53, Tryd.ntmps53
  go_wp2_with fail
  refine (long_any _ hlt _).mono ?_
  rintro e w1 ⟨rfl, rfl⟩
  rw [HL.out]
  go_wp2
  go_loop [9, 10, 11] (fun r i _ => ∃ (j q : Nat), i = .int .i64 j ∧ r = .int .i64 q ∧ ((j = 1 ∧ q < 32) ∨ (j = 2 ∧ q < 2048) ∨ (j = 3 ∧ q < 131072) ∨ (j = 4 ∧ q < 8388608)) ∧ j ≤ 4 ∧
      Hid (NameMath.nxF L 4 3 1 (NameMath.byt L 0 % 8) = NameMath.nxF L 4 (4 - j) j q)) (fun _ i _ => 4 - (intOf i).toNat)
  case atStart => exact ⟨1, NameMath.byt L 0 % 8, rfl, by go_num, .inl ⟨rfl, hm0⟩, by decide, rfl⟩
  case round =>
    obtain ⟨j, q, rfl, rfl, hq, hjn, HI⟩ := hrel
    rcases hq with ⟨rfl, hq⟩ | ⟨rfl, hq⟩ | ⟨rfl, hq⟩ | ⟨rfl, hq⟩
    · by_cases hlo : NameMath.byt L 1 < 128
      · have HE : Hid (NameMath.dec L = (65533, 1)) := (okFor_of HD.out (HI.out.trans (NameMath.nx_bad L 4 2 1 q (.inl hlo)))).1
        clear HI HD
        go_wp2_with (go_at_call 66; refine (second_any _ _ _).mono ?_; rintro e w' ⟨rfl, rfl⟩)
        go_ret3
        exact nextPost HE.out (fun h => rfl)
      · by_cases hhi : 191 < NameMath.byt L 1
        · have HE : Hid (NameMath.dec L = (65533, 1)) := (okFor_of HD.out (HI.out.trans (NameMath.nx_bad L 4 2 1 q (.inr (.inl hhi))))).1
          clear HI HD
          go_wp2_with (go_at_call 66; refine (second_any _ _ _).mono ?_; rintro e w' ⟨rfl, rfl⟩)
          go_ret3
          exact nextPost HE.out (fun h => rfl)
        · cases hsec : NameMath.secondB (NameMath.byt L 0) (NameMath.byt L 1) with
          | false =>
            have HE : Hid (NameMath.dec L = (65533, 1)) := (okFor_of HD.out (HI.out.trans (NameMath.nx_bad L 4 2 1 q (.inr (.inr ⟨rfl, hsec⟩))))).1
            clear HI HD
            go_wp2_with (go_at_call 66; refine (second_any _ _ _).mono ?_; rintro e w' ⟨rfl, rfl⟩)
            go_ret3
            exact nextPost HE.out (fun h => rfl)
          | true =>
            have HE : Hid (NameMath.nxF L 4 3 1 (NameMath.byt L 0 % 8) = NameMath.nxF L 4 (4 - 2) 2 (q * 64 + NameMath.byt L 1 % 64)) := HI.out.trans (NameMath.nx_good L 4 2 1 q (fun h => h.elim hlo (fun h => h.elim hhi (fun h => by rw [hsec] at h; cases h.2))))
            clear HI HD
            go_wp2_with (go_at_call 66; refine (second_any _ _ _).mono ?_; rintro e w' ⟨rfl, rfl⟩)
            go_round
            case rel => exact ⟨2, q * 64 + NameMath.byt L 1 % 64, by go_num, by go_num, .inr (.inl ⟨rfl, by omega⟩), by decide, HE⟩
            case measure => simp [intOf]
    · by_cases hlo : NameMath.byt L 2 < 128
      · have HE : Hid (NameMath.dec L = (65533, 1)) := (okFor_of HD.out (HI.out.trans (NameMath.nx_bad L 4 1 2 q (.inl hlo)))).1
        clear HI HD
        go_wp2
        go_ret3
        exact nextPost HE.out (fun h => rfl)
      · by_cases hhi : 191 < NameMath.byt L 2
        · have HE : Hid (NameMath.dec L = (65533, 1)) := (okFor_of HD.out (HI.out.trans (NameMath.nx_bad L 4 1 2 q (.inr (.inl hhi))))).1
          clear HI HD
          go_wp2
          go_ret3
          exact nextPost HE.out (fun h => rfl)
        · have HE : Hid (NameMath.nxF L 4 3 1 (NameMath.byt L 0 % 8) = NameMath.nxF L 4 (4 - 3) 3 (q * 64 + NameMath.byt L 2 % 64)) := HI.out.trans (NameMath.nx_good L 4 1 2 q (fun h => h.elim hlo (fun h => h.elim hhi (fun h => absurd h.1 (by decide)))))
          clear HI HD
          go_wp2
          go_round
          case rel => exact ⟨3, q * 64 + NameMath.byt L 2 % 64, by go_num, by go_num, .inr (.inr (.inl ⟨rfl, by omega⟩)), by decide, HE⟩
          case measure => simp [intOf]
    · by_cases hlo : NameMath.byt L 3 < 128
      · have HE : Hid (NameMath.dec L = (65533, 1)) := (okFor_of HD.out (HI.out.trans (NameMath.nx_bad L 4 0 3 q (.inl hlo)))).1
        clear HI HD
        go_wp2
        go_ret3
        exact nextPost HE.out (fun h => rfl)
      · by_cases hhi : 191 < NameMath.byt L 3
        · have HE : Hid (NameMath.dec L = (65533, 1)) := (okFor_of HD.out (HI.out.trans (NameMath.nx_bad L 4 0 3 q (.inr (.inl hhi))))).1
          clear HI HD
          go_wp2
          go_ret3
          exact nextPost HE.out (fun h => rfl)
        · have HE : Hid (NameMath.nxF L 4 3 1 (NameMath.byt L 0 % 8) = NameMath.nxF L 4 (4 - 4) 4 (q * 64 + NameMath.byt L 3 % 64)) := HI.out.trans (NameMath.nx_good L 4 0 3 q (fun h => h.elim hlo (fun h => h.elim hhi (fun h => absurd h.1 (by decide)))))
          clear HI HD
          go_wp2
          go_round
          case rel => exact ⟨4, q * 64 + NameMath.byt L 3 % 64, by go_num, by go_num, .inr (.inr (.inr ⟨rfl, by omega⟩)), by decide, HE⟩
          case measure => simp [intOf]
    · have HE : Hid (NameMath.dec L = (q, 4)) := (okFor_of HD.out (HI.out.trans (show NameMath.nxF L 4 0 4 q = (q, 4, true) from rfl))).1
      clear HI HD
      go_wp2
      go_ret3
      exact nextPost HE.out (fun h => by cases h)

theorem next_any (s : ByteArray) (a : Nat) (ha : a < s.size) (hs : s.size ≤ 140737488351232) (w : World) : NextSays s a w := by
  rcases NameMath.long_cases (NameMath.byt (s.data.toList.drop a) 0) with ⟨h1, h2⟩ | ⟨h1, h1', h2⟩ | ⟨h1, h1', h2⟩ | ⟨h1, h1', h2⟩ | ⟨h1, h2⟩
  · exact next_1 s a ha hs w h1
  · by_cases h : s.size - a < 2
    · exact next_s2 s a ha hs w h2 h
    · exact next_l2 s a ha hs w h2 h
  · by_cases h : s.size - a < 3
    · exact next_s3 s a ha hs w h2 h
    · exact next_l3 s a ha hs w h2 h
  · by_cases h : s.size - a < 4
    · exact next_s4 s a ha hs w h2 h
    · exact next_l4 s a ha hs w h2 h
  · exact next_0 s a ha hs w h2
end Go.Proofs.YtmjnllldjeeigaaDoor.Nm
/- The walk of the document's Is. -/
set_option linter.unusedVariables false
set_option maxRecDepth 100000
namespace Go.Proofs.YtmjnllldjeeigaaDoor.Nm
open Go.RowKit

/-- What the document's reading of a rune is good for, at a place of a text. -/
theorem next_use (s : ByteArray) (pos : Nat) (hlt : pos < s.size) {r k : Nat} (hdec : NameMath.dec (s.data.toList.drop pos) = (r, k)) : r ≤ 1114111 ∧ 1 ≤ k ∧ pos + k ≤ s.size ∧
    NameMath.runes (s.data.toList.drop pos) = r :: NameMath.runes (s.data.toList.drop (pos + k)) ∧ NameMath.cut (s.data.toList.drop pos) = (r, (s.data.toList.drop pos).take k) :: NameMath.cut (s.data.toList.drop (pos + k)) ∧ s.data.toList.drop pos ≠ [] := by
  obtain ⟨r', k', hr, hk1, hk2, hdec', hne, hrun, hcut, hd1, hd2⟩ := next_at s pos hlt
  rw [hdec] at hdec'
  obtain ⟨rfl, rfl⟩ : r = r' ∧ k = k' := by simpa using hdec'
  exact ⟨hr, hk1, hk2, hrun, hcut, hne⟩
theorem small_not (r : Nat) (h : NameMath.small r = true ∨ NameMath.dig r = true) : r ≠ 65533 := by
  intro e; subst e; rcases h with h | h <;> exact absurd h (by decide)
theorem dig_true (r : Nat) (h : NameMath.dig r = true) : (48 ≤ r ∧ r ≤ 57) ∨ r = 45 := by simpa [NameMath.dig] using h
theorem dig_false (r : Nat) (h : NameMath.dig r = false) : r ≠ 45 ∧ (r < 48 ∨ 57 < r) := by
  have : ¬ ((48 ≤ r ∧ r ≤ 57) ∨ r = 45) := by simpa [NameMath.dig] using h
  omega

set_option maxHeartbeats 2000000 in
theorem refIs_any (s : ByteArray) (hs : s.size ≤ 140737488351232) (w : World) :
    Calls Tryd.prog 39 #[.string s] w fun e w' => e = .returned (.bool (NameMath.isGo (NameMath.runes s.data.toList) 0)) ∧ w' = w := by
  rw [← NameMath.isRef_go _ 0 (by omega)]
  go_enter Tryd.func39, Tryd.ntmps39
  go_wp2
  go_loop [3, 4] (fun n t => ∃ pos m : Nat, pos ≤ s.size ∧ t = .int .i64 pos ∧ n = .int .i64 m ∧ m ≤ pos ∧ Hid (NameMath.isRef (NameMath.runes s.data.toList) 0 = NameMath.isRef (NameMath.runes (s.data.toList.drop pos)) m)) (fun _ t => s.size - (intOf t).toNat)
  case atStart => exact ⟨0, 0, Nat.zero_le _, rfl, rfl, Nat.le_refl _, rfl⟩
  case round =>
    obtain ⟨pos, m, hpos, rfl, rfl, hm, HI⟩ := hrel
    by_cases hlt : pos < s.size
    · go_wp2_with fail
      refine (next_any s pos hlt hs _).mono ?_
      rintro e w1 ⟨r, k, ok, rfl, rfl, hdec, hok⟩
      obtain ⟨hr, hk1, hk2, hrun, hcut, hne⟩ := next_use s pos hlt hdec
      rw [hrun] at HI
      clear hrun hcut hne hdec
      by_cases hbad : NameMath.small r = false ∧ (m = 0 ∨ NameMath.dig r = false)
      · have HE : Hid (NameMath.isRef (NameMath.runes s.data.toList) 0 = false) := by show _ = _; rw [HI.out, NameMath.isRef, if_pos hbad]
        clear HI hok
        obtain ⟨h1, h2⟩ := hbad
        rcases h2 with h2 | h2
        · subst h2
          cases ok
          all_goals
            go_wp2_with (go_at_call 54; refine (letter_any r hr _).mono ?_; rintro e w' ⟨rfl, hw'⟩; rw [hw']; clear hw' w')
            go_ret
            exact ⟨ret_bool HE.out.symm, rfl⟩
        · obtain ⟨d1, d2⟩ := dig_false r h2
          have d1' : ((r : Int) == 45) = false := beq_eq_false_iff_ne.2 (by omega)
          by_cases hm0 : m = 0
          · subst hm0
            cases ok
            all_goals
              go_wp2_with (go_at_call 54; refine (letter_any r hr _).mono ?_; rintro e w' ⟨rfl, hw'⟩; rw [hw']; clear hw' w')
              go_ret
              exact ⟨ret_bool HE.out.symm, rfl⟩
          · rcases d2 with d2 | d2
            case' inr => have d57 : decide ((r : Int) ≤ 57) = false := by simp; omega
            all_goals
              cases ok
              all_goals
                go_wp2_with (go_at_call 54; refine (letter_any r hr _).mono ?_; rintro e w' ⟨rfl, hw'⟩; rw [hw']; clear hw' w')
                go_ret
                exact ⟨ret_bool HE.out.symm, rfl⟩
      · have hgood : NameMath.small r = true ∨ NameMath.dig r = true := by
          cases h1 : NameMath.small r with
          | true => exact .inl rfl
          | false =>
            cases h2 : NameMath.dig r with
            | true => exact .inr rfl
            | false => exact absurd ⟨h1, .inr h2⟩ hbad
        have hok' : ok = true := by
          cases ok with
          | true => rfl
          | false => exact absurd (hok rfl) (small_not r hgood)
        subst hok'
        have HE : Hid (NameMath.isRef (NameMath.runes s.data.toList) 0 = NameMath.isRef (NameMath.runes (s.data.toList.drop (pos + k))) (m + 1)) := by show _ = _; rw [HI.out, NameMath.isRef, if_neg hbad]
        clear HI hok hgood
        cases h1 : NameMath.small r with
        | true =>
          go_wp2_with (go_at_call 54; refine (letter_any r hr _).mono ?_; rintro e w' ⟨rfl, hw'⟩; rw [hw']; clear hw' w')
          exact ⟨⟨pos + k, m + 1, hk2, by go_num, by go_num, by omega, HE⟩, by simp [intOf]; omega⟩
        | false =>
          have hm0 : m ≠ 0 := fun h => hbad ⟨h1, .inl h⟩
          have hdg : NameMath.dig r = true := by
            cases h2 : NameMath.dig r with
            | true => rfl
            | false => exact absurd ⟨h1, .inr h2⟩ hbad
          clear hbad
          rcases dig_true r hdg with ⟨d1, d2⟩ | d1
          · have d3 : ((r : Int) == 45) = false := beq_eq_false_iff_ne.2 (by omega)
            have d57 : decide ((r : Int) ≤ 57) = true := by simp; omega
            clear hdg
            go_wp2_with (go_at_call 54; refine (letter_any r hr _).mono ?_; rintro e w' ⟨rfl, hw'⟩; rw [hw']; clear hw' w')
            exact ⟨⟨pos + k, m + 1, hk2, by go_num, by go_num, by omega, HE⟩, by simp [intOf]; omega⟩
          · have d3 : ((r : Int) == 45) = true := beq_iff_eq.2 (by omega)
            have HD1 : Hid _ := d1
            clear hdg d1
            go_wp2_with (go_at_call 54; refine (letter_any r hr _).mono ?_; rintro e w' ⟨rfl, hw'⟩; rw [hw']; clear hw' w')
            exact ⟨⟨pos + k, m + 1, hk2, by go_num, by go_num, by omega, HE⟩, by simp [intOf]; omega⟩
    · rw [drop_end s pos hlt] at HI
      have HE : Hid (NameMath.isRef (NameMath.runes s.data.toList) 0 = decide (1 ≤ m ∧ m ≤ 8)) := by show _ = _; rw [HI.out]; rfl
      clear HI
      go_wp2
      all_goals go_ret
      all_goals refine ⟨ret_bool ?_, rfl⟩
      all_goals rw [HE.out, Bool.eq_iff_iff]
      all_goals first | (simp; omega) | (simp; done)
end Go.Proofs.YtmjnllldjeeigaaDoor.Nm
/- The walk of Words, in package name. -/
set_option linter.unusedVariables false
set_option maxRecDepth 100000
namespace Go.Proofs.YtmjnllldjeeigaaDoor.Nm
open Go.RowKit

theorem infoS : (Tryd.prog.info? 9).map (fun i => (i.zero, i.size, i.bytes)) = some (some (.string ⟨#[]⟩), 1, 16) := by kernel_rfl

/-- A text as a value. -/
def strV (l : List UInt8) : Value := .string ⟨l.toArray⟩
theorem strV_data (s : ByteArray) : strV s.data.toList = .string s := by unfold strV; simp
theorem extract_data (s : ByteArray) (a b : Nat) : (s.extract a b).data.toList = (s.data.toList.drop a).take (b - a) := by
  simp [ByteArray.data_extract, Array.toList_extract, List.extract]
theorem strV_extract (s : ByteArray) (a b : Nat) : .string (s.extract a b) = strV ((s.data.toList.drop a).take (b - a)) := by
  rw [← strV_data, extract_data]

theorem wd_blank_in (r : Nat) (c cur : List UInt8) (ps : List (Nat × List UInt8)) (hb : NameMath.blank r = true) (hc : cur ≠ []) : NameMath.wd ((r, c) :: ps) cur = cur :: NameMath.wd ps [] := by
  simp [NameMath.wd, hb, hc]
theorem wd_blank_out (r : Nat) (c : List UInt8) (ps : List (Nat × List UInt8)) (hb : NameMath.blank r = true) : NameMath.wd ((r, c) :: ps) [] = NameMath.wd ps [] := by
  simp [NameMath.wd, hb]
theorem wd_letter (r : Nat) (c cur : List UInt8) (ps : List (Nat × List UInt8)) (hb : NameMath.blank r = false) : NameMath.wd ((r, c) :: ps) cur = NameMath.wd ps (cur ++ c) := by
  simp [NameMath.wd, hb]
theorem piece_ne (L : List UInt8) (a b : Nat) (h : a < b) (hb : b ≤ L.length) : (L.drop a).take (b - a) ≠ [] := by
  intro e
  have := congrArg List.length e
  simp at this
  omega
theorem piece_more (L : List UInt8) (a b k : Nat) (h : a ≤ b) : (L.drop a).take (b - a) ++ (L.drop b).take k = (L.drop a).take (b + k - a) := by
  have e : L.drop b = (L.drop a).drop (b - a) := by rw [List.drop_drop]; congr 1; omega
  rw [e, ← List.take_add]
  congr 1
  omega
/-- Behind an append onto a row of the call's own: the iterator stands as it stood; what was there is as it was. -/
theorem after_append {w w2 w' : World} {o it : Obj} {e : TypeId} {sz n : Nat} {v : Value} {xs : List Value} (hb2 : Below w.heap.size w w2) (hz : w.heap.size < w2.heap.size) (hit2 : w2.heap[w.heap.size]? = some it)
    (hown2 : w2.ownsRow (w.heap.size + 1) e sz v n xs) (hg : (w2.alloc o).grownBy w' v.ownBlock) : w'.heap[w.heap.size]? = some it ∧ Below w.heap.size w w' := by
  have hne : ∀ k, v.ownBlock = some k → w.heap.size + 1 ≤ k := fun k h => (hown2.lt k h).1
  constructor
  · rw [hg.block w.heap.size (by simp; omega) (fun h => by have := hne _ h.symm; omega), heap_alloc_old w2 o hz]
    exact hit2
  · exact (hb2.alloc hb2.size o).grown hg (by simp; have := hb2.size; omega) (fun k h => by have := hne k h; omega)
theorem one_cell (s : ByteArray) : ∀ u ∈ [Value.string s], u.oneCell' = true := by intro u hu; simp at hu; subst hu; rfl
theorem one_new (w : World) (u : Value) (t : TypeId) : ∀ (j : Nat) (x : Value), [u][j]? = some x → (w.alloc (.cells #[u] t)).cell? ((⟨w.heap.size, 0, none⟩ : Addr).add j) = some x := cell_one_new w u t

end Go.Proofs.YtmjnllldjeeigaaDoor.Nm
/- The walks of the document's Runes and Owner. -/

set_option linter.unusedVariables false
set_option maxRecDepth 100000
namespace Go.Proofs.YtmjnllldjeeigaaDoor.Nm
open Go.RowKit

theorem infoI : (Tryd.prog.info? 3).map (fun i => (i.zero, i.size, i.bytes)) = some (some (.int .i64 0), 1, 8) := by kernel_rfl
def iV (r : Nat) : Value := .int .i64 (r : Int)
theorem one_cellI (n : Int) : ∀ u ∈ [Value.int .i64 n], u.oneCell' = true := by intro u hu; simp at hu; subst hu; rfl
/-- Behind an append onto a row of the call's own (no iterator). -/
theorem below_append {w w2 w' : World} {o : Obj} {e : TypeId} {sz n : Nat} {v : Value} {xs : List Value} (hb2 : Below w.heap.size w w2)
    (hown2 : w2.ownsRow w.heap.size e sz v n xs) (hg : (w2.alloc o).grownBy w' v.ownBlock) : Below w.heap.size w w' :=
  (hb2.alloc hb2.size o).grown hg (by simp; have := hb2.size; omega) (fun k h => (hown2.lt k h).1)
theorem runes_le : ∀ (l : List UInt8), ∀ r ∈ NameMath.runes l, r ≤ 1114111 := by
  apply NameMath.byRunes
  · intro r hr; cases hr
  · intro l h ih r hr
    rw [NameMath.runes_cons l h] at hr
    rcases List.mem_cons.1 hr with rfl | hr
    · exact NameMath.dec_max l
    · exact ih r hr
theorem runes_length : ∀ (l : List UInt8), (NameMath.runes l).length ≤ l.length := by
  apply NameMath.byRunes
  · exact Nat.le_refl _
  · intro l h ih
    rw [NameMath.runes_cons l h, List.length_cons]
    have := NameMath.dec_pos l
    have := NameMath.dec_le l h
    rw [List.length_drop] at ih
    omega

set_option maxHeartbeats 1600000 in
theorem refRunes_any (s : ByteArray) (hs : s.size ≤ 1048576) (w : World) :
    Calls Tryd.prog 79 #[.string s] w fun e w' => ∃ v, e = .returned v ∧ w'.ownsRow w.heap.size 3 1 v (NameMath.runes s.data.toList).length ((NameMath.runes s.data.toList).map iV) ∧ Below w.heap.size w w' := by
  obtain ⟨i0, hi, hz0, hz1, hz2⟩ := info_parts infoI
  go_enter Tryd.func79, Tryd.ntmps79
  go_wp2
  go_loopw [3, 4] (fun v t wr => ∃ (pos : Nat) (acc : List Nat), pos ≤ s.size ∧ t = .int .i64 pos ∧ acc.length ≤ pos ∧ wr.ownsRow w.heap.size 3 1 v acc.length (acc.map iV) ∧ Below w.heap.size w wr ∧
      Hid (NameMath.runes s.data.toList = acc ++ NameMath.runes (s.data.toList.drop pos))) (fun _ t _ => s.size - (intOf t).toNat)
  case atStart => exact ⟨0, [], Nat.zero_le _, rfl, Nat.le_refl _, World.ownsRow_nil _ _ _ _, Below.refl _ _, rfl⟩
  case round =>
    obtain ⟨pos, acc, hpos, rfl, hacc, hown, hbw, HI⟩ := hrel
    by_cases hlt : pos < s.size
    · go_wp2_with fail
      refine (next_any s pos hlt (by omega) _).mono ?_
      rintro e w1 ⟨r, k, ok, rfl, hw1, hdec, hok⟩
      subst hw1
      obtain ⟨hr, hk1, hk2, hrun, hcut, hne⟩ := next_use s pos hlt hdec
      rw [hrun] at HI
      clear hrun hcut hne hok hdec
      go_wp2_with (at_builtin; refine wpList_append_own _ rfl _ _ 26 rfl w.heap.size 3 i0 (.int .i64 0) 1 8 Tryd.underlying26 hi hz0 hz1 hz2 rfl (by decide) _ _ _ rfl (hown.alloc _) ⟨_, 0, none⟩ 1 1 [.int .i64 (r : Int)] rfl rfl (one_new _ _ _) (one_cellI _) (by unfold maxLen; omega) (by omega) (by simp; have := hbw.size; omega) ?_)
      intro v' w' hown' hgrow hnn
      have hb' := below_append hbw hown hgrow
      have HE : Hid (NameMath.runes s.data.toList = (acc ++ [r]) ++ NameMath.runes (s.data.toList.drop (pos + k))) := by show _ = _; rw [HI.out]; simp
      have hown3 : w'.ownsRow w.heap.size 3 1 v' (acc ++ [r]).length ((acc ++ [r]).map iV) := by
        rw [List.map_append, List.length_append]; exact hown'
      have HO3 : Hid _ := hown3
      clear hown' hgrow hnn hown3 HI hown
      go_wp2
      exact ⟨⟨pos + k, acc ++ [r], hk2, by go_num, by simp; omega, HO3.out, hb', HE⟩, by simp [intOf]; omega⟩
    · rw [drop_end s pos hlt] at HI
      have HE : Hid (NameMath.runes s.data.toList = acc) := by show _ = _; rw [HI.out]; simp [NameMath.runes_nil]
      clear HI
      go_wp2
      go_ret
      exact ⟨_, rfl, by rw [HE.out]; exact hown, hbw⟩
end Go.Proofs.YtmjnllldjeeigaaDoor.Nm
/- The walks of the document's Owner and Compare. -/
set_option linter.unusedVariables false
set_option maxRecDepth 100000
namespace Go.Proofs.YtmjnllldjeeigaaDoor.Nm
open Go.RowKit

/-- What an owned row looks like, empty or not. -/
theorem own_row {w : World} {B e n : Nat} {v : Value} {xs : List Value} (h : w.ownsRow B e 1 v n xs) : ∃ ao cap, v = .slice ao n cap ∧ n ≤ cap ∧
    ∀ j, j < n → ∃ g, ao = some ⟨g, 0, none⟩ ∧ B ≤ g ∧ g < w.heap.size ∧ w.cell? ⟨g, j, none⟩ = xs[j]? := by
  rcases h.2 with ⟨rfl, h0⟩ | ⟨g, cap, cur, rfl, hb, hg, hnc, hcm, hcs, htake⟩
  · obtain rfl : n = 0 := by omega
    exact ⟨none, 0, rfl, Nat.le_refl _, fun j hj => by omega⟩
  · exact ⟨some ⟨g, 0, none⟩, cap, rfl, hnc, fun j hj => ⟨g, rfl, hb, (Array.getElem?_eq_some_iff.1 hg).1, h.cellAt j (by omega)⟩⟩
theorem getD_iV (rs : List Nat) (j : Nat) (h : j < rs.length) : (rs.map iV)[j]? = some (.int .i64 ((rs[j] : Nat) : Int)) := by
  simp [h, iV]
theorem own_drop (a : Nat) (rs : List Nat) (k : Nat) (h : k < rs.length) : NameMath.own a (rs.drop k) = NameMath.own ((a + rs[k]) % 4) (rs.drop (k + 1)) := by
  rw [List.drop_eq_getElem_cons h]; rfl

set_option maxHeartbeats 1600000 in
theorem refOwner_any (s : ByteArray) (hs : s.size ≤ 1048576) (w : World) :
    Calls Tryd.prog 67 #[.string s] w fun e w' => e = .returned (.int .i64 ((NameMath.own 0 (NameMath.runes s.data.toList) : Nat) : Int)) ∧ Below w.heap.size w w' := by
  have hle := runes_le s.data.toList
  have hlen := runes_length s.data.toList
  have hl : s.data.toList.length = s.size := Array.length_toList
  have hc := refRunes_any s hs w
  rw [hl] at hlen
  clear hl
  generalize NameMath.runes s.data.toList = rs at *
  have HC : Hid (Calls Tryd.prog 79 #[.string s] w fun e w' => ∃ v, e = .returned v ∧ w'.ownsRow w.heap.size 3 1 v rs.length (rs.map iV) ∧ Below w.heap.size w w') := hc
  clear hc
  go_enter Tryd.func67, Tryd.ntmps67
  go_wp2_with fail
  refine HC.out.mono ?_
  rintro e w1 ⟨v, rfl, hown, hb1⟩
  obtain ⟨ao, cap, rfl, hcap, hrow⟩ := own_row hown
  have HR : Hid _ := hrow
  have HL : Hid _ := hle
  clear hrow hle hown
  go_wp2
  go_loop [4, 5] (fun n i => ∃ k m : Nat, k ≤ rs.length ∧ i = .int .i64 k ∧ n = .int .i64 m ∧ m ≤ 3 ∧ Hid (NameMath.own 0 rs = NameMath.own m (rs.drop k))) (fun _ i => rs.length - (intOf i).toNat)
  case atStart => exact ⟨0, 0, Nat.zero_le _, rfl, rfl, by omega, rfl⟩
  case round =>
    obtain ⟨k, m, hk, rfl, rfl, hm, HI⟩ := hrel
    by_cases hlt : k < rs.length
    · obtain ⟨g, rfl, hBg, hgl, hcell⟩ := HR.out k hlt
      rw [getD_iV rs k hlt] at hcell
      have hrk := HL.out rs[k] (List.getElem_mem hlt)
      rw [own_drop m rs k hlt] at HI
      generalize rs[k] = r at *
      go_wp2
      exact ⟨⟨k + 1, (m + r) % 4, by omega, by go_num, by go_num, by omega, HI⟩, by simp [intOf]; omega⟩
    · rw [List.drop_of_length_le (by omega)] at HI
      have HE : Hid (NameMath.own 0 rs = m) := HI
      clear HI
      go_wp2
      go_ret
      exact ⟨ret_int (by rw [HE.out]), hb1⟩

theorem cmp_drop (xs ys : List Nat) (k : Nat) (h1 : k < xs.length) (h2 : k < ys.length) : NameMath.cmp (xs.drop k) (ys.drop k) = if xs[k] < ys[k] then -1 else if ys[k] < xs[k] then 1 else NameMath.cmp (xs.drop (k + 1)) (ys.drop (k + 1)) := by
  rw [List.drop_eq_getElem_cons h1, List.drop_eq_getElem_cons h2]; rfl
theorem cmp_left (ys : List Nat) (h : ys ≠ []) : NameMath.cmp [] ys = -1 := by
  cases ys with
  | nil => exact absurd rfl h
  | cons y ys => rfl
theorem cmp_right (xs : List Nat) (h : xs ≠ []) : NameMath.cmp xs [] = 1 := by
  cases xs with
  | nil => exact absurd rfl h
  | cons y ys => rfl
theorem drop_ne (xs : List Nat) (k : Nat) (h : k < xs.length) : xs.drop k ≠ [] := by
  rw [List.drop_eq_getElem_cons h]; exact List.cons_ne_nil _ _

set_option maxHeartbeats 3000000 in
theorem refCompare_any (a b : ByteArray) (ha : a.size ≤ 1048576) (hb : b.size ≤ 1048576) (w : World) :
    Calls Tryd.prog 68 #[.string a, .string b] w fun e w' => e = .returned (.int .i64 (NameMath.cmp (NameMath.runes a.data.toList) (NameMath.runes b.data.toList))) ∧ Below w.heap.size w w' := by
  have hla := runes_length a.data.toList
  have hlb := runes_length b.data.toList
  have hl : a.data.toList.length = a.size := Array.length_toList
  have hl' : b.data.toList.length = b.size := Array.length_toList
  rw [hl] at hla
  rw [hl'] at hlb
  clear hl hl'
  have hc := refRunes_any a ha w
  have hc2 := fun w => refRunes_any b hb w
  generalize NameMath.runes a.data.toList = xs at *
  generalize NameMath.runes b.data.toList = ys at *
  have HC : Hid (Calls Tryd.prog 79 #[.string a] w fun e w' => ∃ v, e = .returned v ∧ w'.ownsRow w.heap.size 3 1 v xs.length (xs.map iV) ∧ Below w.heap.size w w') := hc
  have HC2 : Hid (∀ w, Calls Tryd.prog 79 #[.string b] w fun e w' => ∃ v, e = .returned v ∧ w'.ownsRow w.heap.size 3 1 v ys.length (ys.map iV) ∧ Below w.heap.size w w') := hc2
  clear hc hc2
  go_enter Tryd.func68, Tryd.ntmps68
  go_wp2_with fail
  refine HC.out.mono ?_
  rintro e w1 ⟨v, rfl, hown, hb1⟩
  go_wp2_with fail
  refine (HC2.out w1).mono ?_
  rintro e w2 ⟨v2, rfl, hown2, hb2⟩
  obtain ⟨ao, cap, rfl, hcap, hrow⟩ := own_row hown
  obtain ⟨bo, cap2, rfl, hcap2, hrow2⟩ := own_row hown2
  have HR : Hid (∀ j, j < xs.length → ∃ g, ao = some ⟨g, 0, none⟩ ∧ w2.cell? ⟨g, j, none⟩ = (xs.map iV)[j]?) := fun j hj => by
    obtain ⟨g, h1, h2, h3, h4⟩ := hrow j hj
    exact ⟨g, h1, by rw [hb2.cell (p := ⟨g, j, none⟩) h3]; exact h4⟩
  have HR2 : Hid (∀ j, j < ys.length → ∃ g, bo = some ⟨g, 0, none⟩ ∧ w2.cell? ⟨g, j, none⟩ = (ys.map iV)[j]?) := fun j hj => by
    obtain ⟨g, h1, h2, h3, h4⟩ := hrow2 j hj
    exact ⟨g, h1, h4⟩
  have hbw : Below w.heap.size w w2 := hb1.trans (hb2.mono hb1.size)
  clear hrow hrow2 hown hown2 hb1 hb2
  go_wp2
  go_loopw [7] (fun i wr => ∃ k : Nat, Hid (∀ p, wr.cell? p = w2.cell? p) ∧ Below w.heap.size w wr ∧ k ≤ xs.length ∧ k ≤ ys.length ∧ i = .int .i64 k ∧ Hid (NameMath.cmp xs ys = NameMath.cmp (xs.drop k) (ys.drop k))) (fun i _ => xs.length - (intOf i).toNat)
  case atStart => exact ⟨0, fun _ => rfl, hbw, Nat.zero_le _, Nat.zero_le _, rfl, rfl⟩
  case round =>
    obtain ⟨k, HW, hbr, hk, hk2, rfl, HI⟩ := hrel
    by_cases hlt : k < xs.length
    · by_cases hlt2 : k < ys.length
      · obtain ⟨g, rfl, hcell⟩ := HR.out k hlt
        obtain ⟨g2, rfl, hcell2⟩ := HR2.out k hlt2
        rw [getD_iV xs k hlt] at hcell
        rw [getD_iV ys k hlt2] at hcell2
        rw [cmp_drop xs ys k hlt hlt2] at HI
        generalize xs[k] = x at *
        generalize ys[k] = y at *
        have hc1 : wr.cell? ⟨g, k, none⟩ = some (.int .i64 (x : Int)) := (HW.out _).trans hcell
        have hc2 : wr.cell? ⟨g2, k, none⟩ = some (.int .i64 (y : Int)) := (HW.out _).trans hcell2
        clear hcell hcell2 HR HR2 HC HC2
        have i1 : (k : Int) < (xs.length : Int) := by omega
        have i2 : (k : Int) < (ys.length : Int) := by omega
        by_cases h1 : x < y
        · have HE : Hid (NameMath.cmp xs ys = -1) := by show _ = _; rw [HI.out, if_pos h1]
          clear HI
          go_wp2
          go_quiet (fail)
          go_wp2
          go_ret
          exact ⟨ret_int HE.out.symm, below_drewN hbr _⟩
        · by_cases h2 : y < x
          · have HE : Hid (NameMath.cmp xs ys = 1) := by show _ = _; rw [HI.out, if_neg h1, if_pos h2]
            clear HI
            go_wp2
            go_quiet (fail)
            go_wp2
            go_quiet (fail)
            go_wp2
            go_ret
            exact ⟨ret_int HE.out.symm, below_drewN (below_drewN hbr _) _⟩
          · have HE : Hid (NameMath.cmp xs ys = NameMath.cmp (xs.drop (k + 1)) (ys.drop (k + 1))) := by show _ = _; rw [HI.out, if_neg h1, if_neg h2]
            clear HI
            go_wp2
            go_quiet (fail)
            go_wp2
            go_quiet (fail)
            go_wp2
            exact ⟨⟨k + 1, HW, below_drewN hbr _, by omega, by omega, by go_num, HE⟩, by simp [intOf]; omega⟩
      · have HE : Hid (NameMath.cmp xs ys = 1) := by show _ = _; rw [HI.out, List.drop_of_length_le (show ys.length ≤ k by omega)]; exact cmp_right _ (drop_ne xs k hlt)
        clear HI HR HR2 HC HC2
        go_wp2
        go_ret
        exact ⟨ret_int HE.out.symm, hbr⟩
    · by_cases hlt2 : k < ys.length
      · have HE : Hid (NameMath.cmp xs ys = -1) := by show _ = _; rw [HI.out, List.drop_of_length_le (show xs.length ≤ k by omega)]; exact cmp_left _ (drop_ne ys k hlt2)
        clear HI HR HR2 HC HC2
        go_wp2
        go_ret
        exact ⟨ret_int HE.out.symm, hbr⟩
      · have HE : Hid (NameMath.cmp xs ys = 0) := by show _ = _; rw [HI.out, List.drop_of_length_le (show xs.length ≤ k by omega), List.drop_of_length_le (show ys.length ≤ k by omega)]; rfl
        clear HI HR HR2 HC HC2
        go_wp2
        go_ret
        exact ⟨ret_int HE.out.symm, hbr⟩
end Go.Proofs.YtmjnllldjeeigaaDoor.Nm
/- The walk of the document's keys. -/
set_option linter.unusedVariables false
set_option maxRecDepth 100000
namespace Go.Proofs.YtmjnllldjeeigaaDoor
open Go.RowKit CheckMath
open Go.Proofs.YtmjnllldjeeigaaDoor.Nm

theorem isGo_len : ∀ (rs : List Nat) (m : Nat), m ≤ 8 → NameMath.isGo rs m = true → m + rs.length ≤ 8
  | [], m, hm, _ => by simpa using hm
  | r :: rs, m, hm, h => by
    rw [NameMath.isGo] at h
    by_cases h1 : NameMath.small r = false ∧ (m = 0 ∨ NameMath.dig r = false)
    · rw [if_pos h1] at h; cases h
    · rw [if_neg h1] at h
      by_cases h2 : 8 < m + 1
      · rw [if_pos h2] at h; cases h
      · rw [if_neg h2] at h
        have := isGo_len rs (m + 1) (by omega) h
        simp only [List.length_cons]
        omega
theorem runes_four : ∀ (l : List UInt8), l.length ≤ 4 * (NameMath.runes l).length := by
  apply NameMath.byRunes
  · exact Nat.zero_le _
  · intro l h ih
    rw [NameMath.runes_cons l h, List.length_cons]
    have h4 : (NameMath.dec l).2 ≤ 4 := (NameMath.d4_w _ _ _ _).2
    rw [List.length_drop] at ih
    omega
theorem isN_size {s : ByteArray} (h : isN s = true) : s.size ≤ 32 := by
  have h1 := isGo_len _ 0 (by omega) h
  have h2 := runes_four s.data.toList
  have h3 : s.data.toList.length = s.size := Array.length_toList
  omega

set_option maxHeartbeats 6000000 in
theorem refKeys_any (s : StepD) (kv nv : Value) (w : World) (h : KRow w kv s.keys) (hnv : ∃ a n c, nv = .slice a n c) (hz : ∀ x, x ∈ s.keys → x.size ≤ 140737488351232) :
    Calls Tryd.prog 56 #[.agg #[.string s.name, .int .i64 s.kind, .int .i64 s.part, kv, nv]] w fun e w' => e = .returned (.bool (tt (KeysOk s))) ∧ Below w.heap.size w w' := by
  obtain ⟨ao, cap, rfl, hcap, hn0, ⟨hlen, hsz⟩, hrow⟩ := h
  obtain ⟨na, nn, nc, rfl⟩ := hnv
  have HR : Hid (∀ j, j < s.keys.length → ∃ g o, ao = some ⟨g, o, none⟩ ∧ g < w.heap.size ∧ w.cell? ⟨g, o + j, none⟩ = some (.string (keyAt s.keys j))) := hrow
  have HZ : Hid (∀ x, x ∈ s.keys → x.size ≤ 140737488351232) := hz
  clear hrow hn0 hsz hz
  by_cases h2 : 2 < s.keys.length
  · have HE : Hid (tt (KeysOk s) = false) := tt_no (fun h => by have := h.1; omega)
    have h2' : (2 : Int) < (s.keys.length : Int) := by omega
    clear HR HZ
    go_enter Tryd.func56, Tryd.ntmps56
    go_wp2
    go_ret
    rw [HE.out]
    exact ⟨rfl, (Below.refl _ _).alloc (Nat.le_refl _) _⟩
  have h2' : ¬ (2 : Int) < (s.keys.length : Int) := by omega
  have HW : Hid (∀ wr, Below (w.alloc (.cells #[.string s.name, .int .i64 s.kind, .int .i64 s.part, .slice ao s.keys.length cap, .slice na nn nc] 42)).heap.size (w.alloc (.cells #[.string s.name, .int .i64 s.kind, .int .i64 s.part, .slice ao s.keys.length cap, .slice na nn nc] 42)) wr →
      Below w.heap.size w wr ∧ wr.cell? ⟨w.heap.size, 2, none⟩ = some (.int .i64 s.part) ∧ wr.cell? ⟨w.heap.size, 3, none⟩ = some (.slice ao s.keys.length cap)) := fun wr hb => by
    have h1 : Below w.heap.size w (w.alloc (.cells #[.string s.name, .int .i64 s.kind, .int .i64 s.part, .slice ao s.keys.length cap, .slice na nn nc] 42)) := (Below.refl _ _).alloc (Nat.le_refl _) _
    refine ⟨h1.trans (hb.mono h1.size), ?_, ?_⟩
    · rw [hb.cell (p := ⟨w.heap.size, 2, none⟩) (by simp), World.cell?_alloc_new]; rfl
    · rw [hb.cell (p := ⟨w.heap.size, 3, none⟩) (by simp), World.cell?_alloc_new]; rfl
  have HB00 : Hid (Below (w.alloc (.cells #[.string s.name, .int .i64 s.kind, .int .i64 s.part, .slice ao s.keys.length cap, .slice na nn nc] 42)).heap.size (w.alloc (.cells #[.string s.name, .int .i64 s.kind, .int .i64 s.part, .slice ao s.keys.length cap, .slice na nn nc] 42)) (w.alloc (.cells #[.string s.name, .int .i64 s.kind, .int .i64 s.part, .slice ao s.keys.length cap, .slice na nn nc] 42))) := Below.refl _ _
  go_enter Tryd.func56, Tryd.ntmps56
  go_wp2
  generalize (w.alloc (.cells #[.string s.name, .int .i64 s.kind, .int .i64 s.part, .slice ao s.keys.length cap, .slice na nn nc] 42)) = w0 at *
  go_loopw [3, 4] (fun k _ wr => ∃ m : Nat, m ≤ s.keys.length ∧ k = .int .i64 (m : Int) ∧ Hid (Below w0.heap.size w0 wr) ∧ Hid (∀ j, j < m → KeyOk s j)) (fun k _ _ => s.keys.length - (intOf k).toNat)
  case atStart => exact ⟨0, Nat.zero_le _, rfl, HB00, fun j hj => absurd hj (Nat.not_lt_zero _)⟩
  case round =>
    obtain ⟨m, hm, rfl, HB0, HN⟩ := hrel
    obtain ⟨hbw, p2, p3⟩ := HW.out wr HB0.out
    have HB : Hid (Below w.heap.size w wr) := hbw
    clear hbw HB00
    by_cases hlt : m < s.keys.length
    · obtain ⟨g, o, rfl, hg, c0⟩ := HR.out m hlt
      have d0 : wr.cell? ⟨g, o + m, none⟩ = some (.string (keyAt s.keys m)) := (HB.out.cell (p := ⟨g, o + m, none⟩) hg).trans c0
      have HC : Hid (0 < m → w.cell? ⟨g, o + (m - 1), none⟩ = some (.string (keyAt s.keys (m - 1)))) := fun h0 => by
        obtain ⟨g', o', e, _, k⟩ := HR.out (m - 1) (by omega)
        cases e
        exact k
      have HC0 : Hid (w.cell? ⟨g, o + m, none⟩ = some (.string (keyAt s.keys m))) := c0
      have HS : Hid (KeyOk s m → ∀ j, j < m + 1 → KeyOk s j) := fun h0 j hj => by
        by_cases e : j = m
        · subst e; exact h0
        · exact HN.out j (by omega)
      have HF : Hid (¬ KeyOk s m → tt (KeysOk s) = false) := fun h0 => tt_no (fun h1 => h0 (h1.2 m hlt))
      have HOK : Hid (KeyOk s m ↔ isN (keyAt s.keys m) = true ∧ (ownN (keyAt s.keys m) : Int) = s.part ∧ (0 < m → cmpN (keyAt s.keys (m - 1)) (keyAt s.keys m) < 0)) := Iff.rfl
      have HX : Hid ((keyAt s.keys m).size ≤ 140737488351232) := HZ.out _ (keyAt_mem hlt)
      have HY : Hid (0 < m → (keyAt s.keys (m - 1)).size ≤ 1048576) := fun h0 => by
        have := isN_size (HN.out (m - 1) (by omega)).1
        omega
      have hmI : (m : Int) < (s.keys.length : Int) := by omega
      clear c0 HN HR HZ
      generalize keyAt s.keys (m - 1) = y at *
      generalize keyAt s.keys m = x at *
      have C1 : Hid (∀ wq, Calls Tryd.prog 39 #[.string x] wq fun e w1 => e = .returned (.bool (isN x)) ∧ w1 = wq) := fun wq => refIs_any x HX.out wq
      have HBD : Hid (Below w0.heap.size w0 wr.drew) := below_drew HB0.out
      by_cases h1 : isN x = true
      · have hx32 := isN_size h1
        have C2 : Hid (∀ wq, Hid (Below w0.heap.size w0 wq) → Calls Tryd.prog 67 #[.string x] wq fun e w1 => e = .returned (.int .i64 (ownN x : Int)) ∧ (w1.cell? ⟨w.heap.size, 2, none⟩ = some (.int .i64 s.part) ∧ w1.cell? ⟨w.heap.size, 3, none⟩ = some (.slice (some ⟨g, o, none⟩) s.keys.length cap) ∧ w1.cell? ⟨g, o + m, none⟩ = some (.string x)) ∧ Hid (Below w0.heap.size w0 w1)) := fun wq hq => by
          refine (refOwner_any x (by omega) wq).mono ?_
          rintro e w1 ⟨rfl, hb1⟩
          have h3 : Below w0.heap.size w0 w1 := hq.out.trans (hb1.mono hq.out.size)
          obtain ⟨k1, k2, k3⟩ := HW.out w1 h3
          exact ⟨rfl, ⟨k2, k3, (k1.cell (p := ⟨g, o + m, none⟩) hg).trans HC0.out⟩, h3⟩
        rw [h1] at C1
        by_cases h3 : (ownN x : Int) = s.part
        · have h3' : ((ownN x : Int) != s.part) = false := by simpa using h3
          have HFL : Hid (∀ wq, Below w0.heap.size w0 wq → Below w.heap.size w wq) := fun wq hq => (HW.out _ hq).1
          by_cases h0 : m = 0
          · have HN2 : Hid _ := HS.out (HOK.out.2 ⟨h1, h3, fun h => by omega⟩)
            have h0' : ¬ (0 : Int) < (m : Int) := by omega
            have h0'' : decide ((0 : Int) < (m : Int)) = false := by simpa using h0'
            have h0n : decide (0 < m) = false := by simp; omega
            clear HOK HF HS HC h3 h1 h0 HX HY
            generalize (ownN x : Int) = ow at *
            go_wp2_with (go_at_call 39; refine (C1.out _).mono ?_; rintro e w1 ⟨rfl, hw1⟩; rw [hw1]; clear hw1 w1)
            go_region_held3 (fun w' => w'.cell? ⟨w.heap.size, 2, none⟩ = some (.int .i64 s.part) ∧ w'.cell? ⟨w.heap.size, 3, none⟩ = some (.slice (some ⟨g, o, none⟩) s.keys.length cap) ∧ w'.cell? ⟨g, o + m, none⟩ = some (.string x)) (go_keep) (first | (go_at_call 67; refine (C2.out _ HBD).mono ?_; rintro e w2 ⟨rfl, ⟨k2, k3, k4⟩, HB2⟩))
            go_wp2
            go_quiet (fail)
            go_wp2
            exact ⟨⟨m + 1, by omega, by go_num, below_drewN HB2.out _, HN2⟩, by simp [intOf]; omega⟩
          · have h0' : (0 : Int) < (m : Int) := by omega
            have h0'' : decide ((0 : Int) < (m : Int)) = true := by simpa using h0'
            have h0n : decide (0 < m) = true := by simp; omega
            have C3 : Hid (∀ wq, Hid (Below w0.heap.size w0 wq) → Calls Tryd.prog 68 #[.string y, .string x] wq fun e w1 => e = .returned (.int .i64 (cmpN y x)) ∧ (w1.cell? ⟨w.heap.size, 3, none⟩ = some (.slice (some ⟨g, o, none⟩) s.keys.length cap) ∧ w1.cell? ⟨g, o + m, none⟩ = some (.string x) ∧ w1.cell? ⟨g, o + (m - 1), none⟩ = some (.string y)) ∧ Hid (Below w0.heap.size w0 w1)) := fun wq hq => by
              refine (refCompare_any y x (HY.out (by omega)) (by omega) wq).mono ?_
              rintro e w1 ⟨rfl, hb1⟩
              have h3 : Below w0.heap.size w0 w1 := hq.out.trans (hb1.mono hq.out.size)
              obtain ⟨k1, k2, k3⟩ := HW.out w1 h3
              exact ⟨rfl, ⟨k3, (k1.cell (p := ⟨g, o + m, none⟩) hg).trans HC0.out, (k1.cell (p := ⟨g, o + (m - 1), none⟩) hg).trans (HC.out (by omega))⟩, h3⟩
            have HPV : Hid (∀ wq, Below w0.heap.size w0 wq → wq.cell? ⟨g, o + (m - 1), none⟩ = some (.string y)) := fun wq hq => ((HW.out _ hq).1.cell (p := ⟨g, o + (m - 1), none⟩) hg).trans (HC.out (by omega))
            have hwr : IntKind.i64.wrap ((m : Int) - 1) = ((m - 1 : Nat) : Int) := by rw [IntKind.wrap_i64]; omega
            have hmm : ((m - 1 : Nat) : Int) < (s.keys.length : Int) := by omega
            by_cases h4 : cmpN y x < 0
            · have HN2 : Hid _ := HS.out (HOK.out.2 ⟨h1, h3, fun h => h4⟩)
              have h4' : ¬ 0 ≤ cmpN y x := by omega
              have h4'' : decide (0 ≤ cmpN y x) = false := by simpa using h4'
              clear HOK HF HS HC h3 h1 h0 HX HY
              generalize (ownN x : Int) = ow at *
              generalize cmpN y x = cy at *
              go_wp2_with (go_at_call 39; refine (C1.out _).mono ?_; rintro e w1 ⟨rfl, hw1⟩; rw [hw1]; clear hw1 w1)
              go_region_held3 (fun w' => w'.cell? ⟨w.heap.size, 2, none⟩ = some (.int .i64 s.part) ∧ w'.cell? ⟨w.heap.size, 3, none⟩ = some (.slice (some ⟨g, o, none⟩) s.keys.length cap) ∧ w'.cell? ⟨g, o + m, none⟩ = some (.string x)) (go_keep) (first | (go_at_call 67; refine (C2.out _ HBD).mono ?_; rintro e w2 ⟨rfl, ⟨k2, k3, k4⟩, HB2⟩))
              have k5 := HPV.out _ HB2.out
              have HBD2 : Hid (Below w0.heap.size w0 w2.drew) := below_drew HB2.out
              clear d0 p2 p3 C2
              go_wp2_with fail
              go_region_held3 (fun w' => w'.cell? ⟨w.heap.size, 3, none⟩ = some (.slice (some ⟨g, o, none⟩) s.keys.length cap) ∧ w'.cell? ⟨g, o + m, none⟩ = some (.string x) ∧ w'.cell? ⟨g, o + (m - 1), none⟩ = some (.string y)) (go_keep) (first | (go_at_call 68; refine (C3.out _ HBD2).mono ?_; rintro e w3 ⟨rfl, ⟨k7, k8, k9⟩, HB3⟩))
              go_wp2
              exact ⟨⟨m + 1, by omega, by go_num, HB3, HN2⟩, by simp [intOf]; omega⟩
            · have HE : Hid (tt (KeysOk s) = false) := HF.out (fun h => h4 ((HOK.out.1 h).2.2 (by omega)))
              have h4' : 0 ≤ cmpN y x := by omega
              have h4'' : decide (0 ≤ cmpN y x) = true := by simpa using h4'
              clear HOK HF HS HC h3 h1 h0 HX HY
              generalize (ownN x : Int) = ow at *
              generalize cmpN y x = cy at *
              go_wp2_with (go_at_call 39; refine (C1.out _).mono ?_; rintro e w1 ⟨rfl, hw1⟩; rw [hw1]; clear hw1 w1)
              go_region_held3 (fun w' => w'.cell? ⟨w.heap.size, 2, none⟩ = some (.int .i64 s.part) ∧ w'.cell? ⟨w.heap.size, 3, none⟩ = some (.slice (some ⟨g, o, none⟩) s.keys.length cap) ∧ w'.cell? ⟨g, o + m, none⟩ = some (.string x)) (go_keep) (first | (go_at_call 67; refine (C2.out _ HBD).mono ?_; rintro e w2 ⟨rfl, ⟨k2, k3, k4⟩, HB2⟩))
              have k5 := HPV.out _ HB2.out
              have HBD2 : Hid (Below w0.heap.size w0 w2.drew) := below_drew HB2.out
              clear d0 p2 p3 C2
              go_wp2_with fail
              go_region_held3 (fun w' => w'.cell? ⟨w.heap.size, 3, none⟩ = some (.slice (some ⟨g, o, none⟩) s.keys.length cap) ∧ w'.cell? ⟨g, o + m, none⟩ = some (.string x) ∧ w'.cell? ⟨g, o + (m - 1), none⟩ = some (.string y)) (go_keep) (first | (go_at_call 68; refine (C3.out _ HBD2).mono ?_; rintro e w3 ⟨rfl, ⟨k7, k8, k9⟩, HB3⟩))
              go_wp2
              go_ret
              rw [HE.out]
              exact ⟨rfl, HFL.out _ HB3.out⟩
        · have h3' : ((ownN x : Int) != s.part) = true := by simpa using h3
          have HE : Hid (tt (KeysOk s) = false) := HF.out (fun h => by have := HOK.out.1 h; exact h3 this.2.1)
          have HFL : Hid (∀ wq, Below w0.heap.size w0 wq → Below w.heap.size w wq) := fun wq hq => (HW.out _ hq).1
          clear HOK HF HS HC h3 h1 HX HY
          generalize (ownN x : Int) = ow at *
          go_wp2_with (go_at_call 39; refine (C1.out _).mono ?_; rintro e w1 ⟨rfl, hw1⟩; rw [hw1]; clear hw1 w1)
          go_region_held3 (fun w' => w'.cell? ⟨w.heap.size, 2, none⟩ = some (.int .i64 s.part) ∧ w'.cell? ⟨w.heap.size, 3, none⟩ = some (.slice (some ⟨g, o, none⟩) s.keys.length cap) ∧ w'.cell? ⟨g, o + m, none⟩ = some (.string x)) (go_keep) (first | (go_at_call 67; refine (C2.out _ HBD).mono ?_; rintro e w2 ⟨rfl, ⟨k2, k3, k4⟩, HB2⟩))
          go_wp2
          go_ret
          rw [HE.out]
          exact ⟨rfl, HFL.out _ HB2.out⟩
      · have h1' : isN x = false := by simpa using h1
        rw [h1'] at C1
        have HE : Hid (tt (KeysOk s) = false) := HF.out (fun h => by have := HOK.out.1 h; exact h1 this.1)
        clear HOK HF HS HC h1 h1' HX HY
        go_wp2_with (go_at_call 39; refine (C1.out _).mono ?_; rintro e w1 ⟨rfl, hw1⟩; rw [hw1]; clear hw1 w1)
        go_quiet (fail)
        go_wp2
        go_ret
        rw [HE.out]
        exact ⟨rfl, below_drewN HB.out _⟩
    · have hmI : ¬ (m : Int) < (s.keys.length : Int) := by omega
      have HE : Hid (tt (KeysOk s) = true) := tt_yes ⟨by omega, fun k hk => HN.out k (by omega)⟩
      clear HN HR HZ
      go_wp2
      go_ret
      rw [HE.out]
      exact ⟨rfl, HB.out⟩
end Go.Proofs.YtmjnllldjeeigaaDoor

/- The walks of the document's twice and needs. -/
set_option linter.unusedVariables false
set_option maxRecDepth 100000
namespace Go.Proofs.YtmjnllldjeeigaaDoor
open Go.RowKit CheckMath
open Go.Proofs.YtmjnllldjeeigaaDoor.Nm

/-- A definition that is boxed: its block, read by whoever comes behind. -/
theorem box_def {w : World} {nm : ByteArray} {ao : Option Addr} {n cap : Nat} (wq : World) (hb : Below (w.alloc (.cells #[.string nm, .slice ao n cap] 24)).heap.size (w.alloc (.cells #[.string nm, .slice ao n cap] 24)) wq) :
    Below w.heap.size w wq ∧ wq.cell? ⟨w.heap.size, 0, none⟩ = some (.string nm) ∧ wq.cell? ⟨w.heap.size, 1, none⟩ = some (.slice ao n cap) := by
  have h1 : Below w.heap.size w (w.alloc (.cells #[.string nm, .slice ao n cap] 24)) := (Below.refl _ _).alloc (Nat.le_refl _) _
  refine ⟨h1.trans (hb.mono h1.size), ?_, ?_⟩
  · rw [hb.cell (p := ⟨w.heap.size, 0, none⟩) (by simp), World.cell?_alloc_new]; rfl
  · rw [hb.cell (p := ⟨w.heap.size, 1, none⟩) (by simp), World.cell?_alloc_new]; rfl

set_option maxHeartbeats 2000000 in
theorem refTwice_any (v : Value) (D : DefD) (i : Nat) (hi : i < D.steps.length) (w : World) (h : DefIn w v D) :
    Calls Tryd.prog 55 #[v, .int .i64 (i : Int)] w fun e w' => e = .returned (.bool (tt (Twice D.steps i))) ∧ Below w.heap.size w w' := by
  obtain ⟨sv, rfl, hd⟩ := h
  obtain ⟨ao, cap, rfl, hcap, hn0, hlen, hrow⟩ := hd
  obtain ⟨g, o, rfl, hg, _⟩ := hrow i hi
  have HR : Hid (∀ j, j < D.steps.length → StepIn w g (o + j * 5) (nth D.steps j)) := fun j hj => by
    obtain ⟨g', o', e, _, k⟩ := hrow j hj
    cases e
    exact k
  have HW : Hid (∀ wq, Below (w.alloc (.cells #[.string D.name, .slice (some ⟨g, o, none⟩) D.steps.length cap] 24)).heap.size (w.alloc (.cells #[.string D.name, .slice (some ⟨g, o, none⟩) D.steps.length cap] 24)) wq → Below w.heap.size w wq ∧ wq.cell? ⟨w.heap.size, 0, none⟩ = some (.string D.name) ∧ wq.cell? ⟨w.heap.size, 1, none⟩ = some (.slice (some ⟨g, o, none⟩) D.steps.length cap)) := fun wq hb => box_def wq hb
  have HB0 : Hid (Below (w.alloc (.cells #[.string D.name, .slice (some ⟨g, o, none⟩) D.steps.length cap] 24)).heap.size (w.alloc (.cells #[.string D.name, .slice (some ⟨g, o, none⟩) D.steps.length cap] 24)) (w.alloc (.cells #[.string D.name, .slice (some ⟨g, o, none⟩) D.steps.length cap] 24))) := Below.refl _ _
  have hiI : (i : Int) < (D.steps.length : Int) := by omega
  clear hrow hn0
  go_enter Tryd.func55, Tryd.ntmps55
  go_wp2
  generalize (w.alloc (.cells #[.string D.name, .slice (some ⟨g, o, none⟩) D.steps.length cap] 24)) = w0 at *
  go_loopw [5] (fun k wr => ∃ n : Nat, n ≤ i ∧ k = .int .i64 (n : Int) ∧ Hid (Below w0.heap.size w0 wr) ∧ Hid (∀ j, j < n → ¬ (nth D.steps j).name = (nth D.steps i).name)) (fun k _ => i - (intOf k).toNat)
  case atStart => exact ⟨0, Nat.zero_le _, rfl, HB0, fun j hj => absurd hj (Nat.not_lt_zero _)⟩
  case round =>
    obtain ⟨n, hn, rfl, HB, HN⟩ := hrel
    obtain ⟨hbw, p0, p1⟩ := HW.out _ HB.out
    by_cases hlt : n < i
    · obtain ⟨c0, _⟩ := (HR.out n (by omega)).below hg hbw
      obtain ⟨e0, _⟩ := (HR.out i hi).below hg hbw
      have hnI : (n : Int) < (D.steps.length : Int) := by omega
      clear HR hbw p0
      by_cases hq : (nth D.steps n).name = (nth D.steps i).name
      · have HE : Hid (tt (Twice D.steps i) = true) := tt_yes ⟨n, hlt, hq⟩
        have hq2 := txt_eq hq
        have HF : Hid (Below w.heap.size w wr) := (HW.out _ HB.out).1
        clear hq HN
        go_wp2
        go_quiet (fail)
        go_wp2
        go_ret
        rw [HE.out]
        exact ⟨rfl, below_drewN HF.out _⟩
      · have hq2 := txt_ne hq
        have HN2 : Hid (∀ j, j < n + 1 → ¬ (nth D.steps j).name = (nth D.steps i).name) := fun j hj => by
          by_cases e : j = n
          · subst e; exact hq
          · exact HN.out j (by omega)
        clear hq HN
        go_wp2
        go_quiet (fail)
        go_wp2
        exact ⟨⟨n + 1, by omega, by go_num, below_drewN HB.out _, HN2⟩, by simp [intOf]; omega⟩
    · have hni : ¬ (n : Int) < (i : Int) := by omega
      have HE : Hid (tt (Twice D.steps i) = false) := tt_no (fun ⟨k, hk, e⟩ => HN.out k (by omega) e)
      clear HN HR
      go_wp2
      go_ret
      rw [HE.out]
      exact ⟨rfl, hbw⟩

set_option maxHeartbeats 4000000 in
theorem refNeeds_any (v : Value) (l : List Int) (i n : Nat) (w : World) (h : IRow w v l) (hn : n ≤ 140737488355328) (hi : i ≤ 140737488355328) :
    Calls Tryd.prog 57 #[v, .int .i64 (i : Int), .int .i64 (n : Int)] w fun e w' => e = .returned (.bool (tt (NeedsOk l i n))) ∧ Below w.heap.size w w' := by
  obtain ⟨ao, cap, rfl, hcap, hn0, hlen, hrow⟩ := h
  have HR : Hid (∀ j, j < l.length → ∃ g o, ao = some ⟨g, o, none⟩ ∧ g < w.heap.size ∧ w.cell? ⟨g, o + j, none⟩ = some (.int .i64 (needAt l j))) := hrow
  clear hrow hn0
  go_enter Tryd.func57, Tryd.ntmps57
  go_wp2
  go_loopw [7] (fun k wr => ∃ m : Nat, m ≤ l.length ∧ k = .int .i64 (m : Int) ∧ Hid (Below w.heap.size w wr) ∧ Hid (∀ j, j < m → NeedOk l i n j)) (fun k _ => l.length - (intOf k).toNat)
  case atStart => exact ⟨0, Nat.zero_le _, rfl, Below.refl _ _, fun j hj => absurd hj (Nat.not_lt_zero _)⟩
  case round =>
    obtain ⟨m, hm, rfl, HB, HN⟩ := hrel
    by_cases hlt : m < l.length
    · obtain ⟨g, o, rfl, hg, c0⟩ := HR.out m hlt
      have d0 : wr.cell? ⟨g, o + m, none⟩ = some (.int .i64 (needAt l m)) := (HB.out.cell (p := ⟨g, o + m, none⟩) hg).trans c0
      have HC : Hid (0 < m → wr.cell? ⟨g, o + (m - 1), none⟩ = some (.int .i64 (needAt l (m - 1)))) := fun h0 => by
        obtain ⟨g', o', e, _, k⟩ := HR.out (m - 1) (by omega)
        cases e
        exact (HB.out.cell (p := ⟨g, o + (m - 1), none⟩) hg).trans k
      have HS : Hid (NeedOk l i n m → ∀ j, j < m + 1 → NeedOk l i n j) := fun h0 j hj => by
        by_cases e : j = m
        · subst e; exact h0
        · exact HN.out j (by omega)
      have HF : Hid (¬ NeedOk l i n m → tt (NeedsOk l i n) = false) := fun h0 => tt_no (fun h1 => h0 (h1 m hlt))
      have hmI : (m : Int) < (l.length : Int) := by omega
      clear c0 HN HR
      have HOK : Hid (NeedOk l i n m ↔ 0 ≤ needAt l m ∧ needAt l m < n ∧ needAt l m ≠ i ∧ (0 < m → needAt l (m - 1) < needAt l m)) := Iff.rfl
      generalize needAt l (m - 1) = y at *
      generalize needAt l m = x at *
      by_cases h1 : x < 0
      · have HE : Hid (tt (NeedsOk l i n) = false) := HF.out (fun h => by have := HOK.out.1 h; omega)
        have h1' : decide (x < 0) = true := by simpa using h1
        clear HOK HF HS HC
        go_wp2
        go_quiet (fail)
        go_wp2
        go_ret
        rw [HE.out]
        exact ⟨rfl, below_drewN HB.out _⟩
      have h1' : decide (x < 0) = false := by simpa using h1
      by_cases h2 : (n : Int) ≤ x
      · have HE : Hid (tt (NeedsOk l i n) = false) := HF.out (fun h => by have := HOK.out.1 h; omega)
        have h2' : decide ((n : Int) ≤ x) = true := by simpa using h2
        clear HOK HF HS HC
        go_wp2
        go_quiet (fail)
        go_wp2
        go_ret
        rw [HE.out]
        exact ⟨rfl, below_drewN HB.out _⟩
      have h2' : decide ((n : Int) ≤ x) = false := by simpa using h2
      by_cases h3 : x = (i : Int)
      · have HE : Hid (tt (NeedsOk l i n) = false) := HF.out (fun h => by have := HOK.out.1 h; omega)
        have h3' : (x == (i : Int)) = true := by simpa using h3
        clear HOK HF HS HC h3
        go_wp2
        go_quiet (fail)
        go_wp2
        go_ret
        rw [HE.out]
        exact ⟨rfl, below_drewN HB.out _⟩
      have h3' : (x == (i : Int)) = false := by simpa using h3
      by_cases h0 : m = 0
      · have HN2 : Hid _ := HS.out (HOK.out.2 ⟨by omega, by omega, h3, fun h => by omega⟩)
        have h0' : ¬ (0 : Int) < (m : Int) := by omega
        have h0'' : decide ((0 : Int) < (m : Int)) = false := by simpa using h0'
        have h0n : decide (0 < m) = false := by simp; omega
        clear HOK HF HS HC h3 h0
        go_wp2
        go_quiet (fail)
        go_wp2
        exact ⟨⟨m + 1, by omega, by go_num, below_drewN HB.out _, HN2⟩, by simp [intOf]; omega⟩
      have h0' : (0 : Int) < (m : Int) := by omega
      have h0'' : decide ((0 : Int) < (m : Int)) = true := by simpa using h0'
      have h0n : decide (0 < m) = true := by simp; omega
      have hmm : ((m : Int) - 1) < (l.length : Int) := by omega
      have hmz : (0 : Int) ≤ (m : Int) - 1 := by omega
      have d1 := HC.out (by omega)
      by_cases h4 : x ≤ y
      · have HE : Hid (tt (NeedsOk l i n) = false) := HF.out (fun h => by have := (HOK.out.1 h).2.2.2 (by omega); omega)
        have h4' : decide (x ≤ y) = true := by simpa using h4
        clear HOK HF HS HC h3 h0
        go_wp2
        go_quiet (fail)
        go_wp2
        go_ret
        rw [HE.out]
        exact ⟨rfl, below_drewN HB.out _⟩
      · have HN2 : Hid _ := HS.out (HOK.out.2 ⟨by omega, by omega, h3, fun h => by omega⟩)
        have h4' : decide (x ≤ y) = false := by simpa using h4
        clear HOK HF HS HC h3 h0
        go_wp2
        go_quiet (fail)
        go_wp2
        exact ⟨⟨m + 1, by omega, by go_num, below_drewN HB.out _, HN2⟩, by simp [intOf]; omega⟩
    · have hml : ¬ (m : Int) < (l.length : Int) := by omega
      have HE : Hid (tt (NeedsOk l i n) = true) := tt_yes (fun k hk => HN.out k (by omega))
      clear HN HR
      go_wp2
      go_ret
      rw [HE.out]
      exact ⟨rfl, HB.out⟩
end Go.Proofs.YtmjnllldjeeigaaDoor

/- The walks of the document's order and loose. -/
set_option linter.unusedVariables false
set_option maxRecDepth 100000
namespace Go.Proofs.YtmjnllldjeeigaaDoor
open Go.RowKit CheckMath
open Go.Proofs.YtmjnllldjeeigaaDoor.Nm

set_option maxHeartbeats 4000000 in
theorem refOrder_any (v : Value) (D : DefD) (hN : Needy D.steps) (i : Nat) (hi : i < D.steps.length) (w : World) (h : DefIn w v D) :
    Calls Tryd.prog 58 #[v, .int .i64 (i : Int)] w fun e w' => e = .returned (.bool (tt (OutOfOrder D.steps i))) ∧ Below w.heap.size w w' := by
  obtain ⟨sv, rfl, hd⟩ := h
  obtain ⟨ao, cap, rfl, hcap, hn0, hlen, hrow⟩ := hd
  obtain ⟨g, o, rfl, hg, hs⟩ := hrow i hi
  have HR : Hid (∀ j, j < D.steps.length → StepIn w g (o + j * 5) (nth D.steps j)) := fun j hj => by
    obtain ⟨g', o', e, _, k⟩ := hrow j hj
    cases e
    exact k
  have HNY : Hid (Needy D.steps) := hN
  have hb0 : Below w.heap.size w (w.alloc (.cells #[.string D.name, .slice (some ⟨g, o, none⟩) D.steps.length cap] 24)) := (Below.refl _ _).alloc (Nat.le_refl _) _
  obtain ⟨c0, c1, c2, kv, nv, c3, c4, c5, c6⟩ := hs.below hg hb0
  obtain ⟨ka, kc, rfl⟩ := c5.slice
  obtain ⟨na, nc, rfl, hnc, _, hnl, hnr⟩ := c6
  have hs1 : (w.alloc (.cells #[.string D.name, .slice (some ⟨g, o, none⟩) D.steps.length cap] 24)).heap.size = w.heap.size + 1 := by simp
  have HW : Hid (∀ wq, Below ((w.alloc (.cells #[.string D.name, .slice (some ⟨g, o, none⟩) D.steps.length cap] 24)).alloc (.cells #[.string (nth D.steps i).name, .int .i64 (nth D.steps i).kind, .int .i64 (nth D.steps i).part, .slice ka (nth D.steps i).keys.length kc, .slice na (nth D.steps i).needs.length nc] 42)).heap.size ((w.alloc (.cells #[.string D.name, .slice (some ⟨g, o, none⟩) D.steps.length cap] 24)).alloc (.cells #[.string (nth D.steps i).name, .int .i64 (nth D.steps i).kind, .int .i64 (nth D.steps i).part, .slice ka (nth D.steps i).keys.length kc, .slice na (nth D.steps i).needs.length nc] 42)) wq →
      Below w.heap.size w wq ∧ wq.cell? ⟨w.heap.size, 1, none⟩ = some (.slice (some ⟨g, o, none⟩) D.steps.length cap) ∧ wq.cell? ⟨w.heap.size + 1, 1, none⟩ = some (.int .i64 (nth D.steps i).kind) ∧ wq.cell? ⟨w.heap.size + 1, 4, none⟩ = some (.slice na (nth D.steps i).needs.length nc) ∧
      ∀ j, j < (nth D.steps i).needs.length → ∃ g o, na = some ⟨g, o, none⟩ ∧ wq.cell? ⟨g, o + j, none⟩ = some (.int .i64 (needAt (nth D.steps i).needs j))) := fun wq hb => by
    generalize hw0 : w.alloc (.cells #[.string D.name, .slice (some ⟨g, o, none⟩) D.steps.length cap] 24) = w0 at *
    have h1 : Below w0.heap.size w0 (w0.alloc (.cells #[.string (nth D.steps i).name, .int .i64 (nth D.steps i).kind, .int .i64 (nth D.steps i).part, .slice ka (nth D.steps i).keys.length kc, .slice na (nth D.steps i).needs.length nc] 42)) := (Below.refl _ _).alloc (Nat.le_refl _) _
    have h2 : Below w0.heap.size w0 wq := h1.trans (hb.mono h1.size)
    refine ⟨hb0.trans (h2.mono hb0.size), ?_, ?_, ?_, fun j hj => ?_⟩
    · rw [h2.cell (p := ⟨w.heap.size, 1, none⟩) (by show w.heap.size < _; omega), ← hw0, World.cell?_alloc_new]; rfl
    · rw [hb.cell (p := ⟨w.heap.size + 1, 1, none⟩) (by simp; omega), ← hs1, World.cell?_alloc_new]; rfl
    · rw [hb.cell (p := ⟨w.heap.size + 1, 4, none⟩) (by simp; omega), ← hs1, World.cell?_alloc_new]; rfl
    · obtain ⟨g2, o2, e1, e2, e3⟩ := hnr j hj
      exact ⟨g2, o2, e1, (h2.cell (p := ⟨g2, o2 + j, none⟩) e2).trans e3⟩
  have HB0 : Hid _ := Below.refl ((w.alloc (.cells #[.string D.name, .slice (some ⟨g, o, none⟩) D.steps.length cap] 24)).alloc (.cells #[.string (nth D.steps i).name, .int .i64 (nth D.steps i).kind, .int .i64 (nth D.steps i).part, .slice ka (nth D.steps i).keys.length kc, .slice na (nth D.steps i).needs.length nc] 42)).heap.size ((w.alloc (.cells #[.string D.name, .slice (some ⟨g, o, none⟩) D.steps.length cap] 24)).alloc (.cells #[.string (nth D.steps i).name, .int .i64 (nth D.steps i).kind, .int .i64 (nth D.steps i).part, .slice ka (nth D.steps i).keys.length kc, .slice na (nth D.steps i).needs.length nc] 42))
  obtain ⟨c0, c1, c2, kv2, nv2, c3, c4, _, _⟩ := hs
  have e3 : w.cell? ⟨g, o + i * 5 + 3, none⟩ = some (.slice ka (nth D.steps i).keys.length kc) := by rw [← hb0.cell (p := ⟨g, o + i * 5 + 3, none⟩) hg]; assumption
  have e4 : w.cell? ⟨g, o + i * 5 + 4, none⟩ = some (.slice na (nth D.steps i).needs.length nc) := by rw [← hb0.cell (p := ⟨g, o + i * 5 + 4, none⟩) hg]; assumption
  have hiI : (i : Int) < (D.steps.length : Int) := by omega
  clear hrow hn0 hnr c3 c4 hb0 hs1 hN
  go_enter Tryd.func58, Tryd.ntmps58
  go_wp2
  generalize ((w.alloc (.cells #[.string D.name, .slice (some ⟨g, o, none⟩) D.steps.length cap] 24)).alloc (.cells #[.string (nth D.steps i).name, .int .i64 (nth D.steps i).kind, .int .i64 (nth D.steps i).part, .slice ka (nth D.steps i).keys.length kc, .slice na (nth D.steps i).needs.length nc] 42)) = w0 at *
  go_loopw [6] (fun k wr => ∃ n : Nat, n ≤ (nth D.steps i).needs.length ∧ k = .int .i64 (n : Int) ∧ Hid (Below w0.heap.size w0 wr) ∧ Hid (∀ j, j < n → (nth D.steps (needAt (nth D.steps i).needs j).toNat).kind = 1)) (fun k _ => (nth D.steps i).needs.length - (intOf k).toNat)
  case atStart => exact ⟨0, Nat.zero_le _, rfl, HB0, fun j hj => absurd hj (Nat.not_lt_zero _)⟩
  case round =>
    obtain ⟨n, hn, rfl, HB, HN⟩ := hrel
    obtain ⟨hbw, p1, p2, p3, p4⟩ := HW.out _ HB.out
    have HBW : Hid (Below w.heap.size w wr) := hbw
    have HP4 : Hid (∀ j, j < (nth D.steps i).needs.length → ∃ g o, na = some ⟨g, o, none⟩ ∧ wr.cell? ⟨g, o + j, none⟩ = some (.int .i64 (needAt (nth D.steps i).needs j))) := p4
    clear hbw p4
    by_cases hq : (nth D.steps i).kind = 3
    · have HE : Hid (tt (OutOfOrder D.steps i) = false) := tt_no (fun h => h.1 hq)
      have h' : ((nth D.steps i).kind != (3 : Int)) = false := by simpa using hq
      clear hq HN HR HP4
      by_cases hlt : n < (nth D.steps i).needs.length
      · have hltI : (n : Int) < ((nth D.steps i).needs.length : Int) := by omega
        go_wp2
        go_ret
        rw [HE.out]
        exact ⟨rfl, HBW.out⟩
      · have hltI : ¬ (n : Int) < ((nth D.steps i).needs.length : Int) := by omega
        go_wp2
        go_ret
        rw [HE.out]
        exact ⟨rfl, HBW.out⟩
    have HQ : Hid (¬ (nth D.steps i).kind = 3) := hq
    have h' : ((nth D.steps i).kind != (3 : Int)) = true := by simpa using hq
    clear hq
    by_cases hlt : n < (nth D.steps i).needs.length
    · obtain ⟨g2, o2, rfl, d0⟩ := HP4.out n hlt
      obtain ⟨x0, x1, _⟩ := HNY.out i hi _ (needAt_mem hlt)
      have HM : Hid (needAt (nth D.steps i).needs n ∈ (nth D.steps i).needs) := needAt_mem hlt
      obtain ⟨x, hx⟩ : ∃ x : Nat, needAt (nth D.steps i).needs n = (x : Int) := ⟨_, (Int.toNat_of_nonneg x0).symm⟩
      rw [hx] at d0 x1
      obtain ⟨_, d2, _⟩ := (HR.out x (by omega)).below hg HBW.out
      have HX : Hid (needAt (nth D.steps i).needs n = (x : Int)) := hx
      have hltI : (n : Int) < ((nth D.steps i).needs.length : Int) := by omega
      clear x0 hx c0 c1 c2 e3 e4 HR HP4
      by_cases hk : (nth D.steps x).kind = 1
      · have hk' : ((nth D.steps x).kind != (1 : Int)) = false := by simpa using hk
        have HN2 : Hid (∀ j, j < n + 1 → (nth D.steps (needAt (nth D.steps i).needs j).toNat).kind = 1) := fun j hj => by
          by_cases e : j = n
          · subst e; rw [HX.out]; exact hk
          · exact HN.out j (by omega)
        clear hk HN
        go_wp2
        go_quiet (fail)
        go_wp2
        exact ⟨⟨n + 1, by omega, by go_num, below_drewN HB.out _, HN2⟩, by simp [intOf]; omega⟩
      · have hk' : ((nth D.steps x).kind != (1 : Int)) = true := by simpa using hk
        have HE : Hid (tt (OutOfOrder D.steps i) = true) := tt_yes ⟨HQ.out, _, HM.out, by rw [HX.out]; exact hk⟩
        clear hk HN
        go_wp2
        go_quiet (fail)
        go_wp2
        go_ret
        rw [HE.out]
        exact ⟨rfl, below_drewN HBW.out _⟩
    · have hltI : ¬ (n : Int) < ((nth D.steps i).needs.length : Int) := by omega
      have HE : Hid (tt (OutOfOrder D.steps i) = false) := tt_no (fun ⟨_, x, hx, e⟩ => by
        obtain ⟨j, hj, rfl⟩ := mem_needAt hx
        exact e (HN.out j (by omega)))
      clear HN HR HP4
      go_wp2
      go_ret
      rw [HE.out]
      exact ⟨rfl, HBW.out⟩
end Go.Proofs.YtmjnllldjeeigaaDoor

/- The mathematics of CheckSound: how many pivots; gone by rounds; a row of bools. -/
set_option linter.unusedVariables false
set_option maxRecDepth 100000
namespace Go.Proofs.YtmjnllldjeeigaaDoor
open Go.RowKit CheckMath

theorem cnt_zero {P : Nat → Prop} : ∀ n, (∀ x, x < n → ¬ P x) → cnt P n = 0
  | 0, _ => rfl
  | n + 1, h => by
    unfold cnt
    rw [cnt_zero n (fun x hx => h x (by omega)), tt_no (h n (by omega))]
    rfl
noncomputable def pivots (ss : List StepD) (m : Nat) : Nat := cnt (fun j => (nth ss j).kind = 2) m
theorem pivots_le {ss : List StepD} (h : ∀ i, i < ss.length → ¬ PivotAgain ss i) : ∀ m, m ≤ ss.length → pivots ss m ≤ 1
  | 0, _ => Nat.zero_le _
  | m + 1, hm => by
    unfold pivots cnt
    have := pivots_le h m (by omega)
    unfold pivots at this
    by_cases hk : (nth ss m).kind = 2
    · have hz : cnt (fun j => (nth ss j).kind = 2) m = 0 := cnt_zero m (fun x hx e => h m (by omega) ⟨hk, x, hx, e⟩)
      rw [hz, tt_yes hk]
      exact Nat.le_refl _
    · rw [tt_no hk]
      exact this
theorem pivots_yes {ss : List StepD} {m : Nat} (h : (nth ss m).kind = 2) : pivots ss (m + 1) = pivots ss m + 1 := by unfold pivots; rw [cnt, tt_yes h]; rfl
theorem pivots_no {ss : List StepD} {m : Nat} (h : ¬ (nth ss m).kind = 2) : pivots ss (m + 1) = pivots ss m := by unfold pivots; rw [cnt, tt_no h]; rfl

def updB (l : Nat → Bool) (x : Nat) (b : Bool) : Nat → Bool := fun j => if j = x then b else l j
theorem updB_at (l : Nat → Bool) (x : Nat) (b : Bool) : updB l x b x = b := by simp [updB]
theorem updB_off {l : Nat → Bool} {x y : Nat} {b : Bool} (h : ¬ y = x) : updB l x b y = l y := by simp [updB, h]
/-- Inside a round. -/
def InRound (ss : List StepD) (l0 l : Nat → Bool) (i : Nat) : Prop := (∀ y, l0 y = true → l y = true) ∧ ∀ j, j < i → (∀ y, CheckMath.Edge ss j y → l0 y = true) → l j = true
theorem InRound.start (ss : List StepD) (l : Nat → Bool) : InRound ss l l 0 := ⟨fun y h => h, fun j hj => absurd hj (Nat.not_lt_zero _)⟩
theorem InRound.more {ss : List StepD} {l0 l : Nat → Bool} {i : Nat} {b : Bool} (h : InRound ss l0 l i) (hb : (∀ y, CheckMath.Edge ss i y → l y = true) → b = true) : InRound ss l0 (updB l i (l i || b)) (i + 1) := by
  obtain ⟨h1, h2⟩ := h
  refine ⟨fun y hy => ?_, fun j hj hf => ?_⟩
  · by_cases e : y = i
    · subst e; rw [updB_at, h1 y hy]; rfl
    · rw [updB_off e]; exact h1 y hy
  · by_cases e : j = i
    · subst e; rw [updB_at, hb (fun y hy => h1 y (hf y hy))]; simp
    · rw [updB_off e]; exact h2 j (by omega) hf
def GoneInv (ss : List StepD) (r : Nat) (l : Nat → Bool) : Prop := (∀ j, j < ss.length → l j = true) ∨ r ≤ cnt (fun j => l j = true) ss.length
theorem GoneInv.step {ss : List StepD} {r : Nat} {l l' : Nat → Bool} (hR : ∀ i, i < ss.length → ¬ Ring ss i) (h : GoneInv ss r l) (k : InRound ss l l' ss.length) : GoneInv ss (r + 1) l' := by
  by_cases ha : ∀ j, j < ss.length → l j = true
  · exact Or.inl (fun j hj => k.1 j (ha j hj))
  · right
    have hr : r ≤ cnt (fun j => l j = true) ss.length := h.resolve_left ha
    obtain ⟨j, ha⟩ := Classical.not_forall.1 ha
    obtain ⟨hj, hn⟩ := Classical.not_imp.1 ha
    obtain ⟨m, hm, hg, he⟩ := minimal (n := ss.length) edge_lt hR (fun j => l j = true) _ j hj hn (Nat.le_refl _)
    have := cnt_lt ss.length (fun x _ => k.1 x) m hm (k.2 m hm he) hg
    omega
theorem GoneInv.all {ss : List StepD} {l : Nat → Bool} (h : GoneInv ss ss.length l) : ∀ j, j < ss.length → l j = true := by
  rcases h with h | h
  · exact h
  · exact cnt_all _ h
/-- A row of bools in a new block. -/
structure GoneAt (wb : World) (n : Nat) (l : Nat → Bool) (wr : World) : Prop where
  bel : Below wb.heap.size wb wr
  lt : wb.heap.size < wr.heap.size
  cell : ∀ j, j < n → wr.cell? ⟨wb.heap.size, j, none⟩ = some (.bool (l j)) ∧ wr.frozen? ⟨wb.heap.size, j, none⟩ = false
theorem GoneAt.set {wb : World} {n : Nat} {l : Nat → Bool} {wr : World} (h : GoneAt wb n l wr) (x : Nat) (b : Bool) : GoneAt wb n (updB l x b) (wr.setCell ⟨wb.heap.size, x, none⟩ (.bool b)) := by
  obtain ⟨h1, h2, h3⟩ := h
  have hc := chg_set wr ⟨wb.heap.size, x, none⟩ (.bool b)
  have hb : Below wb.heap.size wr (wr.setCell ⟨wb.heap.size, x, none⟩ (.bool b)) := below_chg hc h1.size (fun k hk e => by simp only at e; omega)
  refine ⟨h1.trans hb, Nat.lt_of_lt_of_le h2 hc.size, fun j hj => ⟨?_, ?_⟩⟩
  · by_cases e : j = x
    · subst e
      rw [updB_at]
      exact World.cell?_setCell_same _ _ _ (h3 j hj).1
    · rw [updB_off e, World.cell?_setCell_other wr _ _ _ (fun e' => e (congrArg Addr.off e').symm)]
      exact (h3 j hj).1
  · rw [World.frozen?_setCell]; exact (h3 j hj).2
theorem GoneAt.below {wb : World} {n : Nat} {l : Nat → Bool} {wr w' : World} (h : GoneAt wb n l wr) (hb : Below wr.heap.size wr w') : GoneAt wb n l w' := by
  obtain ⟨h1, h2, h3⟩ := h
  refine ⟨h1.trans (hb.mono h1.size), Nat.lt_of_lt_of_le h2 hb.size, fun j hj => ⟨(hb.cell (p := ⟨wb.heap.size, j, none⟩) h2).trans (h3 j hj).1, ?_⟩⟩
  exact (World.frozen?_of_block (w := wr) (a := ⟨wb.heap.size, j, none⟩) (hb.block _ h2)).trans (h3 j hj).2

theorem infoBool : (Tryd.prog.info? 4).map (fun i => (i.zero, i.size, i.bytes)) = some (some (.bool false), 1, 1) := by kernel_rfl
theorem info_bool : ∃ i, Tryd.prog.info? 4 = some i ∧ i.zero = some (.bool false) ∧ i.size = 1 ∧ i.bytes = 1 := by
  have h := infoBool
  cases hi : Tryd.prog.info? 4 with
  | none => rw [hi] at h; cases h
  | some i =>
    rw [hi] at h
    simp only [Option.map_some, Option.some.injEq, Prod.mk.injEq] at h
    exact ⟨i, rfl, h.1, h.2.1, h.2.2⟩
/-- make of a row of bools. -/
theorem mk_bools (w : World) (n : Nat) (hn : n ≤ 8) : ∃ w', (Instr.makeSlice 83 (.int .i64 (n : Int)) (.int .i64 (n : Int))).run Tryd.prog w = .ok (.slice (some ⟨w.heap.size, 0, none⟩) n n) w' ∧ GoneAt w n (fun _ => false) w' := by
  obtain ⟨i0, hi, hz0, hz1, hz2⟩ := info_bool
  have hmk := run_makeSlice (P := Tryd.prog) w 83 4 i0 (.bool false) Tryd.underlying83 hi hz0 .i64 .i64 (n : Int) (n : Int) (by omega) (by omega) (by rw [hz1]; omega) (by rw [hz2]; omega) (by omega)
  rw [hz1, Nat.mul_one, Int.toNat_natCast, show (Value.bool false).cells = #[Value.bool false] from rfl] at hmk
  refine ⟨_, hmk, (Below.refl _ _).alloc (Nat.le_refl _) _, by simp, fun j hj => ?_⟩
  rw [World.cell?_alloc_new, World.frozen?_alloc_new]
  refine ⟨?_, rfl⟩
  rw [← Array.getElem?_toList, toList_madeCells_one]
  simp [hj]
end Go.Proofs.YtmjnllldjeeigaaDoor
