/- The walks of the document's Num. -/
import Derived.Test.YtbgankldnjeohaaPkNumW
import Derived.Test.YtbgankldnjeohaaPkTakeW
import Derived.Test.YtbgankldnjeohaaPkLiveW
set_option linter.unusedVariables false
set_option maxRecDepth 100000
namespace Go.Proofs.Ytbgankldnjeohaa.Pk
open Go.RowKit
open PackMath (num num_lt num_ge)

theorem refNum_neg (n : Int) (h : n < 0 ∨ 1125899906842624 < n) (hn : -9223372036854775808 ≤ n ∧ n ≤ 9223372036854775807) (w : World) :
    Calls Try.prog 31 #[.int .i64 n] w fun e w' => e = .returned (.tuple #[.string ⟨#[]⟩, .int .i64 30]) ∧ w' = w := by
  have h0 : decide (n < 0) = true ∨ decide (1125899906842624 < n) = true := by simpa using h
  by_cases h1 : n < 0
  · go_enter Try.func31, Try.ntmps31
    clear h h0
    go_wp2
    go_ret2
    exact ⟨rfl, rfl⟩
  · have h2 : 1125899906842624 < n := by omega
    clear h h0
    go_enter Try.func31, Try.ntmps31
    go_wp2
    go_ret2
    exact ⟨rfl, rfl⟩

theorem str_snoc (acc : List UInt8) (b : UInt8) : ByteArray.mk acc.toArray ++ ⟨#[b]⟩ = ByteArray.mk (acc ++ [b]).toArray := by
  apply ByteArray.ext
  simp [ByteArray.data_append]

set_option maxHeartbeats 1000000 in
theorem refNum_any (n : Nat) (hn : n ≤ 1125899906842624) (w : World) :
    Calls Try.prog 31 #[.int .i64 (n : Int)] w fun e w' => e = .returned (.tuple #[strV (num n), .int .i64 0]) ∧ Below w.heap.size w w' := by
  have HL : Hid ((num n).length ≤ 8) := PackMath.num_len8 n hn
  have h0 : ¬ (1125899906842624 : Int) < (n : Int) := by omega
  go_enter Try.func31, Try.ntmps31
  go_wp2
  go_loopw [0, 4] (fun nv v wr => ∃ (m : Nat) (acc : ByteArray), nv = .int .i64 (m : Int) ∧ m ≤ n ∧ v = .string acc ∧ Below w.heap.size w wr ∧ acc.size ≤ 8 ∧ Hid (num n = acc.data.toList ++ num m)) (fun nv _ _ => (intOf nv).toNat)
  case atStart => exact ⟨n, ⟨#[]⟩, rfl, Nat.le_refl _, rfl, Below.refl _ _, by decide, rfl⟩
  case round =>
    obtain ⟨m, acc, rfl, hm, rfl, hbw, hacc, HI⟩ := hrel
    by_cases h : m < 128
    · have hx : ((UInt8.ofNat m).toNat : Int) = (m : Int) := by rw [UInt8.toNat_ofNat']; omega
      have hcv := conv_one wr (UInt8.ofNat m)
      rw [hx] at hcv
      have HE : Hid (strV (num n) = .string (acc ++ ⟨#[UInt8.ofNat m]⟩)) := by show _ = _; rw [HI.out, num_lt m h, ← strV_data]; simp [ByteArray.data_append]
      have h2 : ((128 : Int) ≤ (m : Int)) = False := by simp; omega
      generalize UInt8.ofNat m = b at *
      clear HI hx
      go_wp2
      go_ret2
      rw [HE.out]
      exact ⟨rfl, hbw.alloc hbw.size _⟩
    · have hx : ((UInt8.ofNat (m % 128 + 128)).toNat : Int) = 128 + (m : Int) % 128 := by rw [UInt8.toNat_ofNat']; omega
      have hcv := conv_one wr (UInt8.ofNat (m % 128 + 128))
      rw [hx] at hcv
      have HE : Hid (num n = (acc ++ ⟨#[UInt8.ofNat (m % 128 + 128)]⟩).data.toList ++ num (m / 128)) := by show _ = _; rw [HI.out, num_ge m h]; simp [ByteArray.data_append]
      have hl8 : acc.size < 8 := by
        have h1 := HL.out
        have h2 := PackMath.num_pos (m / 128)
        rw [HI.out, num_ge m h] at h1
        simp at h1
        omega
      have h2 : (128 : Int) ≤ (m : Int) := by omega
      generalize UInt8.ofNat (m % 128 + 128) = b at *
      clear HI hx
      go_wp2
      exact ⟨⟨m / 128, _, by go_num, by omega, rfl, hbw.alloc hbw.size _, by rw [ByteArray.size_append]; show acc.size + 1 ≤ 8; omega, HE⟩, by simp [intOf]; omega⟩

theorem refNum_all (n : Int) (hn : -9223372036854775808 ≤ n ∧ n ≤ 9223372036854775807) (w : World) :
    Calls Try.prog 31 #[.int .i64 n] w fun e w' => e = .returned (numV n) ∧ Below w.heap.size w w' := by
  unfold numV
  by_cases h : n < 0 ∨ 1125899906842624 < n
  · rw [if_pos h]
    exact (refNum_neg n h hn w).mono fun e w' ⟨h1, h2⟩ => ⟨h1, h2 ▸ Below.refl _ _⟩
  · rw [if_neg h]
    have := refNum_any n.toNat (by omega) w
    rwa [show ((n.toNat : Nat) : Int) = n by omega] at this
end Go.Proofs.Ytbgankldnjeohaa.Pk