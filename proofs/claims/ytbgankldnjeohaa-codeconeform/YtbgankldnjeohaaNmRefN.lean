/- The walks of the document's own reading of runes. -/
import Derived.Test.YtbgankldnjeohaaNmWalks
import Derived.Test.YtbgankldnjeohaaNmMathN
import Derived.Deep.Light
set_option linter.unusedVariables false
set_option maxRecDepth 100000
namespace Go.Proofs.Ytbgankldnjeohaa.Nm
open Go.RowKit

set_option maxRecDepth 100000 in
set_option maxHeartbeats 1000000 in
theorem long_any (b : Nat) (hb : b < 256) (w : World) :
    Calls Try.prog 40 #[.int .i64 (b : Int)] w fun e w' => e = .returned (.int .i64 ((NameMath.longN b : Nat) : Int)) ∧ w' = w := by
  have hc := NameMath.long_cases b
  rcases hc with ⟨h1, h2⟩ | ⟨h1, h1', h2⟩ | ⟨h1, h1', h2⟩ | ⟨h1, h1', h2⟩ | ⟨h1 | h1, h2⟩
  all_goals
    rw [h2]
    clear h2
    go_enter Try.func40, Try.ntmps40
    go_wp2
    go_ret
    exact ⟨rfl, rfl⟩

set_option maxHeartbeats 1000000 in
theorem second_any (f b : Nat) (w : World) :
    Calls Try.prog 41 #[.int .i64 (f : Int), .int .i64 (b : Int)] w fun e w' => e = .returned (.bool (NameMath.secondB f b)) ∧ w' = w := by
  rcases (show f = 224 ∨ f = 237 ∨ f = 240 ∨ f = 244 ∨ (f ≠ 224 ∧ f ≠ 237 ∧ f ≠ 240 ∧ f ≠ 244) by omega) with rfl | rfl | rfl | rfl | ⟨k1, k2, k3, k4⟩
  case' inr.inr.inr.inr =>
    have e1 : ((f : Int) == 224) = false := beq_eq_false_iff_ne.2 (by omega)
    have e2 : ((f : Int) == 237) = false := beq_eq_false_iff_ne.2 (by omega)
    have e3 : ((f : Int) == 240) = false := beq_eq_false_iff_ne.2 (by omega)
    have e4 : ((f : Int) == 244) = false := beq_eq_false_iff_ne.2 (by omega)
  all_goals go_enter Try.func41, Try.ntmps41
  all_goals go_wp2
  all_goals go_ret
  all_goals go_light
  all_goals refine ⟨ret_bool ?_, rfl⟩
  all_goals unfold NameMath.secondB
  all_goals rw [Bool.eq_iff_iff]
  all_goals first | (simp; omega) | (simp; done)

theorem byt_at (s : ByteArray) (at_ j : Nat) (h : at_ + j < s.size) : NameMath.byt (s.data.toList.drop at_) j = (s[at_ + j]'h).toNat := by
  rw [NameMath.byt_drop]
  unfold NameMath.byt
  have : s.data[at_ + j]? = some (s.data[at_ + j]'h) := Array.getElem?_eq_getElem h
  simp [List.getD, this]
  rfl

theorem okFor_of {x : Nat × Nat} {y : Nat × Nat × Bool} (h : NameMath.okFor x y) {r k : Nat} {ok : Bool} (e : y = (r, k, ok)) : x = (r, k) ∧ (ok = false → r = 65533) := by
  subst e
  obtain ⟨h1, h2, h3⟩ := h
  exact ⟨Prod.ext h1.symm h2.symm, fun h => by rw [← h3 h]; exact h1⟩

def NextPost (L : List UInt8) (w : World) (e : Ending) (w' : World) : Prop :=
  ∃ (r k : Nat) (ok : Bool), e = .returned (.tuple #[.int .i64 (r : Int), .int .i64 (k : Int), .bool ok]) ∧ w' = w ∧ NameMath.dec L = (r, k) ∧ (ok = false → r = 65533)
theorem nextPost {L : List UInt8} {w : World} {r k : Nat} {ok : Bool} (h : NameMath.dec L = (r, k)) (h2 : ok = false → r = 65533) : NextPost L w (.returned (.tuple #[.int .i64 (r : Int), .int .i64 (k : Int), .bool ok])) w := ⟨r, k, ok, rfl, rfl, h, h2⟩
def NextSays (s : ByteArray) (a : Nat) (w : World) : Prop :=
  Calls Try.prog 35 #[.string s, .int .i64 (a : Int)] w fun e w' => NextPost (s.data.toList.drop a) w e w'

set_option maxRecDepth 100000 in
set_option maxHeartbeats 1000000 in
theorem next_1 (s : ByteArray) (a : Nat) (ha : a < s.size) (hs : s.size ≤ 140737488351232) (w : World) (h1 : NameMath.byt (s.data.toList.drop a) 0 < 128) : NextSays s a w := by
  have hg0 : (s[a]'ha).toNat = NameMath.byt (s.data.toList.drop a) 0 := (byt_at s a 0 (by omega)).symm
  have haI : (a : Int) < (s.size : Int) := by omega
  have hlt := NameMath.byt_lt (s.data.toList.drop a) 0
  have hL := NameMath.long_cases (NameMath.byt (s.data.toList.drop a) 0)
  have hD : NameMath.dec (s.data.toList.drop a) = (NameMath.byt (s.data.toList.drop a) 0, 1) := NameMath.nx1 _ h1
  have hL1 : NameMath.longN (NameMath.byt (s.data.toList.drop a) 0) = 1 := by omega
  unfold NextSays
  generalize s.data.toList.drop a = L at *
  have HD : Hid (NameMath.dec L = (NameMath.byt L 0, 1)) := hD
  have HL : Hid (NameMath.longN (NameMath.byt L 0) = 1) := hL1
  clear hD hL hL1
  generalize NameMath.byt L 0 = b0 at *
  go_enter Try.func35, Try.ntmps35
  go_wp2_with fail
  refine (long_any _ hlt _).mono ?_
  rintro e w1 ⟨rfl, rfl⟩
  rw [HL.out]
  go_wp2
  go_ret3
  exact nextPost HD.out (fun h => by cases h)

set_option maxRecDepth 100000 in
set_option maxHeartbeats 1000000 in
theorem next_0 (s : ByteArray) (a : Nat) (ha : a < s.size) (hs : s.size ≤ 140737488351232) (w : World) (h2 : NameMath.longN (NameMath.byt (s.data.toList.drop a) 0) = 0) : NextSays s a w := by
  have hg0 : (s[a]'ha).toNat = NameMath.byt (s.data.toList.drop a) 0 := (byt_at s a 0 (by omega)).symm
  have haI : (a : Int) < (s.size : Int) := by omega
  have hlt := NameMath.byt_lt (s.data.toList.drop a) 0
  have hL := NameMath.long_cases (NameMath.byt (s.data.toList.drop a) 0)
  have hD : NameMath.dec (s.data.toList.drop a) = (65533, 1) := NameMath.nx0 _ h2
  have hL1 : NameMath.longN (NameMath.byt (s.data.toList.drop a) 0) = 0 := by omega
  unfold NextSays
  generalize s.data.toList.drop a = L at *
  have HD : Hid (NameMath.dec L = (65533, 1)) := hD
  have HL : Hid (NameMath.longN (NameMath.byt L 0) = 0) := hL1
  clear hD hL hL1
  generalize NameMath.byt L 0 = b0 at *
  go_enter Try.func35, Try.ntmps35
  go_wp2_with fail
  refine (long_any _ hlt _).mono ?_
  rintro e w1 ⟨rfl, rfl⟩
  rw [HL.out]
  go_wp2
  go_ret3
  exact nextPost HD.out (fun h => rfl)

set_option maxRecDepth 100000 in
set_option maxHeartbeats 1000000 in
theorem next_s2 (s : ByteArray) (a : Nat) (ha : a < s.size) (hs : s.size ≤ 140737488351232) (w : World) (h2 : NameMath.longN (NameMath.byt (s.data.toList.drop a) 0) = 2) (hsh : s.size - a < 2) : NextSays s a w := by
  have hg0 : (s[a]'ha).toNat = NameMath.byt (s.data.toList.drop a) 0 := (byt_at s a 0 (by omega)).symm
  have haI : (a : Int) < (s.size : Int) := by omega
  have hlt := NameMath.byt_lt (s.data.toList.drop a) 0
  have hL := NameMath.long_cases (NameMath.byt (s.data.toList.drop a) 0)
  have hlen : (s.data.toList.drop a).length = s.size - a := by rw [List.length_drop]; congr 1
  have hD : NameMath.dec (s.data.toList.drop a) = (65533, 1) := NameMath.nxShort _ (by omega) (by omega)
  clear hlen
  unfold NextSays
  generalize s.data.toList.drop a = L at *
  have HD : Hid (NameMath.dec L = (65533, 1)) := hD
  have HL : Hid (NameMath.longN (NameMath.byt L 0) = 2) := h2
  clear hD hL h2
  generalize NameMath.byt L 0 = b0 at *
  go_enter Try.func35, Try.ntmps35
  go_wp2_with fail
  refine (long_any _ hlt _).mono ?_
  rintro e w1 ⟨rfl, rfl⟩
  rw [HL.out]
  go_wp2
  go_ret3
  exact nextPost HD.out (fun h => rfl)

set_option maxRecDepth 100000 in
set_option maxHeartbeats 1000000 in
theorem next_s3 (s : ByteArray) (a : Nat) (ha : a < s.size) (hs : s.size ≤ 140737488351232) (w : World) (h2 : NameMath.longN (NameMath.byt (s.data.toList.drop a) 0) = 3) (hsh : s.size - a < 3) : NextSays s a w := by
  have hg0 : (s[a]'ha).toNat = NameMath.byt (s.data.toList.drop a) 0 := (byt_at s a 0 (by omega)).symm
  have haI : (a : Int) < (s.size : Int) := by omega
  have hlt := NameMath.byt_lt (s.data.toList.drop a) 0
  have hL := NameMath.long_cases (NameMath.byt (s.data.toList.drop a) 0)
  have hlen : (s.data.toList.drop a).length = s.size - a := by rw [List.length_drop]; congr 1
  have hD : NameMath.dec (s.data.toList.drop a) = (65533, 1) := NameMath.nxShort _ (by omega) (by omega)
  clear hlen
  unfold NextSays
  generalize s.data.toList.drop a = L at *
  have HD : Hid (NameMath.dec L = (65533, 1)) := hD
  have HL : Hid (NameMath.longN (NameMath.byt L 0) = 3) := h2
  clear hD hL h2
  generalize NameMath.byt L 0 = b0 at *
  go_enter Try.func35, Try.ntmps35
  go_wp2_with fail
  refine (long_any _ hlt _).mono ?_
  rintro e w1 ⟨rfl, rfl⟩
  rw [HL.out]
  go_wp2
  go_ret3
  exact nextPost HD.out (fun h => rfl)

set_option maxRecDepth 100000 in
set_option maxHeartbeats 1000000 in
theorem next_s4 (s : ByteArray) (a : Nat) (ha : a < s.size) (hs : s.size ≤ 140737488351232) (w : World) (h2 : NameMath.longN (NameMath.byt (s.data.toList.drop a) 0) = 4) (hsh : s.size - a < 4) : NextSays s a w := by
  have hg0 : (s[a]'ha).toNat = NameMath.byt (s.data.toList.drop a) 0 := (byt_at s a 0 (by omega)).symm
  have haI : (a : Int) < (s.size : Int) := by omega
  have hlt := NameMath.byt_lt (s.data.toList.drop a) 0
  have hL := NameMath.long_cases (NameMath.byt (s.data.toList.drop a) 0)
  have hlen : (s.data.toList.drop a).length = s.size - a := by rw [List.length_drop]; congr 1
  have hD : NameMath.dec (s.data.toList.drop a) = (65533, 1) := NameMath.nxShort _ (by omega) (by omega)
  clear hlen
  unfold NextSays
  generalize s.data.toList.drop a = L at *
  have HD : Hid (NameMath.dec L = (65533, 1)) := hD
  have HL : Hid (NameMath.longN (NameMath.byt L 0) = 4) := h2
  clear hD hL h2
  generalize NameMath.byt L 0 = b0 at *
  go_enter Try.func35, Try.ntmps35
  go_wp2_with fail
  refine (long_any _ hlt _).mono ?_
  rintro e w1 ⟨rfl, rfl⟩
  rw [HL.out]
  go_wp2
  go_ret3
  exact nextPost HD.out (fun h => rfl)

end Go.Proofs.Ytbgankldnjeohaa.Nm