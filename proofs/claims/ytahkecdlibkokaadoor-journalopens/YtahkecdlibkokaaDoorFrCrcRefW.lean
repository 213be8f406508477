/- The walks of the document's answer for package crc. -/
import Derived.Test.YtahkecdlibkokaaDoorFrCrcW
set_option maxRecDepth 100000
namespace Go.Proofs.YtahkecdlibkokaaDoor.Fr
open Go.RowKit

theorem steps_succ (j c : Nat) : CrcMath.steps (j + 1) c = CrcMath.step (CrcMath.steps j c) := by
  rw [CrcMath.steps_add]; rfl
theorem step_odd (c : Nat) (hc : c < 4294967296) (h : c % 2 = 1) : bits .xor .u32 ((c : Int) / 2) 3988292384 = ((CrcMath.step c : Nat) : Int) := by
  rw [show (c : Int) / 2 = ((c / 2 : Nat) : Int) from by omega, show (3988292384 : Int) = ((3988292384 : Nat) : Int) from rfl, u32_xor_nat _ _ (by omega) (by decide)]
  unfold CrcMath.step CrcMath.poly
  rw [h]
theorem step_even (c : Nat) (h : c % 2 = 0) : (c : Int) / 2 = ((CrcMath.step c : Nat) : Int) := by
  unfold CrcMath.step
  rw [h, Nat.zero_mul, Nat.xor_zero]
  omega
theorem steps_lt (j c : Nat) (h : c < 4294967296) : CrcMath.steps j c < 4294967296 := CrcMath.steps_lt j c h

set_option maxHeartbeats 1000000 in
theorem refExtend_any (c : Nat) (s : ByteArray) (hc : c < 4294967296) (hs : s.size ≤ maxLen) (w : World) :
    Calls Tryd.prog 75 #[.int .u32 (c : Int), .string s] w fun e w' => e = .returned (.int .u32 ((CrcMath.ext c s.data.toList : Nat) : Int)) ∧ w' = w := by
  unfold maxLen at hs
  go_enter Tryd.func75, Tryd.ntmps75
  go_wp2
  rw [not_u32 c hc]
  have hf := flip_lt c hc
  have HE : Hid (CrcMath.ext c s.data.toList = CrcMath.flip (CrcMath.run (CrcMath.flip c) s.data.toList)) := rfl
  generalize CrcMath.flip c = d at *
  go_loop [5, 6, 7, 8] (fun st i _ _ => ∃ k : Nat, k ≤ s.size ∧ i = .int .i64 k ∧ st = .int .u32 ((CrcMath.run d (s.data.toList.take k) : Nat) : Int)) (fun _ i _ _ => s.size - (intOf i).toNat)
  case atStart => exact ⟨0, Nat.zero_le _, rfl, rfl⟩
  case round =>
    obtain ⟨k, hk, rfl, rfl⟩ := hrel
    have hr := run_lt d (s.data.toList.take k) hf
    by_cases hlt : k < s.size
    · have HS : Hid (CrcMath.run d (s.data.toList.take (k + 1)) = CrcMath.byt (CrcMath.run d (s.data.toList.take k)) s[k]) := by
        rw [take_snoc s k hlt]; exact run_snoc _ _ _
      generalize CrcMath.run d (s.data.toList.take k) = c1 at *
      have hx := xor_lt c1 s[k] hr
      go_wp2
      rw [xor_u32 c1 s[k] hr]
      have HB : Hid (CrcMath.byt c1 s[k] = CrcMath.steps 8 (c1 ^^^ s[k].toNat)) := rfl
      generalize c1 ^^^ s[k].toNat = x at *
      go_loop [5, 7, 8] (fun st i _ => ∃ j : Nat, j ≤ 8 ∧ i = .int .i64 j ∧ st = .int .u32 ((CrcMath.steps j x : Nat) : Int)) (fun _ i _ => 8 - (intOf i).toNat)
      case atStart => exact ⟨0, Nat.zero_le _, rfl, rfl⟩
      case round =>
        obtain ⟨j, hj, rfl, rfl⟩ := hrel
        have hy := steps_lt j x hx
        have HJ : Hid (CrcMath.steps (j + 1) x = CrcMath.step (CrcMath.steps j x)) := steps_succ j x
        have H8 : Hid (j = 8 → CrcMath.steps j x = CrcMath.steps 8 x) := fun h => by rw [h]
        generalize CrcMath.steps j x = y at *
        by_cases hj8 : j < 8
        · by_cases ho : y % 2 = 1
          · have ho' : (((y : Int) % 2) == 1) = true := by simp; omega
            go_wp2
            go_round
            case rel => exact ⟨j + 1, by omega, by go_num, by rw [HJ.out, step_odd y hy ho]⟩
            case measure => simp [intOf]; omega
          · have ho' : (((y : Int) % 2) == 1) = false := by simp; omega
            go_wp2
            go_round
            case rel => exact ⟨j + 1, by omega, by go_num, by rw [HJ.out, step_even y (by omega)]⟩
            case measure => simp [intOf]; omega
        · go_wp2
          go_round
          case rel => exact ⟨k + 1, by omega, by go_num, by rw [HS.out, HB.out, H8.out (by omega)]⟩
          case measure => simp [intOf]; omega
    · go_wp2
      go_ret
      rw [not_u32 _ hr, HE.out, List.take_of_length_le (by simp; omega)]
      exact ⟨rfl, rfl⟩

theorem refSum_any (s : ByteArray) (hs : s.size ≤ maxLen) (w : World) :
    Calls Tryd.prog 64 #[.string s] w fun e w' => e = .returned (.int .u32 ((CrcMath.ext 0 s.data.toList : Nat) : Int)) ∧ w' = w := by
  have hx := refExtend_any 0 s (by decide) hs w
  go_enter Tryd.func64, Tryd.ntmps64
  go_wp2_with fail
  refine hx.mono ?_
  rintro e w1 ⟨rfl, rfl⟩
  go_wp2_with fail
  go_ret
  exact ⟨rfl, rfl⟩
end Go.Proofs.YtahkecdlibkokaaDoor.Fr