/- The walks of the numbers: numBytes and Num of package pack. -/
import Derived.Test.YtbgankldnjeohaaBase
import Derived.Test.YtbgankldnjeohaaPkMath
set_option linter.unusedVariables false
set_option maxRecDepth 100000
namespace Go.Proofs.Ytbgankldnjeohaa.Pk
open Go.RowKit
open PackMath (num num_lt num_ge)

set_option maxHeartbeats 1000000 in
theorem numBytes_any (n : Nat) (hn : n ≤ 1125899906842624) (w : World) :
    Calls Try.prog 74 #[.int .i64 (n : Int)] w fun e w' => e = .returned (strV (num n)) ∧ Below w.heap.size w w' := by
  obtain ⟨i0, hi, hz0, hz1, hz2⟩ := info_parts infoB
  have hlen := PackMath.num_len8 n hn
  obtain ⟨w1, hmk, hown1, hgr1⟩ := run_make_own (P := Try.prog) w w.heap.size 75 5 i0 (.int .u8 0) 1 Try.underlying75 hi hz0 hz1 .i64 .i64 8 (by rw [hz2]; omega) (by unfold maxLen; omega) (Nat.le_refl _)
  have hb1 : Below w.heap.size w w1 := (Below.refl _ w).grown hgr1 (Nat.le_refl _) (fun k h => by cases h)
  have HO1 : Hid (w1.ownsRow w.heap.size 5 1 (.slice (some ⟨w.heap.size, 0, none⟩) 0 8) 0 []) := hown1
  have HB1 : Hid (Below w.heap.size w w1) := hb1
  clear hown1 hgr1 hb1
  have HL : Hid ((num n).length ≤ 8) := hlen
  clear hlen
  go_enter Try.func74, Try.ntmps74
  simp only [Int.cast_ofNat_Int] at hmk
  go_wp2
  go_loopw [0, 3] (fun nv v wr => ∃ (m : Nat) (acc : List UInt8), nv = .int .i64 (m : Int) ∧ m ≤ n ∧ wr.ownsRow w.heap.size 5 1 v acc.length (cells8 acc) ∧ Below w.heap.size w wr ∧ acc.length ≤ 8 ∧ Hid (num n = acc ++ num m)) (fun nv _ _ => (intOf nv).toNat)
  case atStart => exact ⟨n, [], rfl, Nat.le_refl _, HO1.out, HB1.out, by decide, rfl⟩
  case round =>
    obtain ⟨m, acc, rfl, hm, hown, hbw, hacc, HI⟩ := hrel
    by_cases h : m < 128
    · have hx : Hid ((m : Int) = ((UInt8.ofNat m).toNat : Int)) := by show _ = _; rw [UInt8.toNat_ofNat']; omega
      have HE : Hid (num n = acc ++ [UInt8.ofNat m]) := by show _ = _; rw [HI.out, num_lt m h]
      have h2 : ((128 : Int) ≤ (m : Int)) = False := by simp; omega
      clear HI
      go_wp2_with (at_builtin; refine wpList_append_own _ rfl _ _ 75 rfl w.heap.size 5 i0 (.int .u8 0) 1 1 Try.underlying75 hi hz0 hz1 hz2 rfl (by decide) _ _ _ rfl (hown.alloc _) ⟨_, 0, none⟩ 1 1 [.int .u8 _] rfl rfl (one_new _ _ _) (one_cell8 _) (by unfold maxLen; omega) (by omega) (by simp; have := hbw.size; omega) ?_)
      intro v' w' hown' hgrow hnn
      have hb' := below_append hbw hown hgrow
      have hown3 : w'.ownsRow w.heap.size 5 1 v' (acc.length + 1) (cells8 (acc ++ [UInt8.ofNat m])) := own_cast rfl (by rw [hx.out]; simp [cells8]) hown'
      have hcv := own_string (P := Try.prog) hown3 (src := 75) (dst := 9) Try.underlying75 Try.underlying5 Try.underlying9
      rw [← HE.out] at hcv
      clear hown' hgrow hnn hown3 hown hx HE
      go_wp2
      go_ret
      exact ⟨rfl, hb'⟩
    · have hx : Hid ((m : Int) % 128 + 128 = ((UInt8.ofNat (m % 128 + 128)).toNat : Int)) := by show _ = _; rw [UInt8.toNat_ofNat']; omega
      have HE : Hid (num n = (acc ++ [UInt8.ofNat (m % 128 + 128)]) ++ num (m / 128)) := by show _ = _; rw [HI.out, num_ge m h]; simp
      have hl8 : acc.length < 8 := by
        have h1 := HL.out
        have h2 := PackMath.num_pos (m / 128)
        rw [HE.out] at h1
        simp at h1
        omega
      have h2 : (128 : Int) ≤ (m : Int) := by omega
      clear HI
      go_wp2_with (at_builtin; refine wpList_append_own _ rfl _ _ 75 rfl w.heap.size 5 i0 (.int .u8 0) 1 1 Try.underlying75 hi hz0 hz1 hz2 rfl (by decide) _ _ _ rfl (hown.alloc _) ⟨_, 0, none⟩ 1 1 [.int .u8 _] rfl rfl (one_new _ _ _) (one_cell8 _) (by unfold maxLen; omega) (by omega) (by simp; have := hbw.size; omega) ?_)
      intro v' w' hown' hgrow hnn
      have hb' := below_append hbw hown hgrow
      have hown3 : w'.ownsRow w.heap.size 5 1 v' (acc ++ [UInt8.ofNat (m % 128 + 128)]).length (cells8 (acc ++ [UInt8.ofNat (m % 128 + 128)])) := own_cast (by simp) (by rw [hx.out]; simp [cells8]) hown'
      have HO3 : Hid (w'.ownsRow w.heap.size 5 1 v' (acc ++ [UInt8.ofNat (m % 128 + 128)]).length (cells8 (acc ++ [UInt8.ofNat (m % 128 + 128)]))) := hown3
      clear hown' hgrow hnn hown3 hown hx
      go_wp2
      exact ⟨⟨m / 128, _, by go_num, by omega, HO3.out, hb', by simp; omega, HE⟩, by simp [intOf]; omega⟩

theorem num_neg (n : Int) (h : n < 0 ∨ 1125899906842624 < n) (hn : -9223372036854775808 ≤ n ∧ n ≤ 9223372036854775807) (w : World) :
    Calls Try.prog 70 #[.int .i64 n] w fun e w' => e = .returned (.tuple #[.string ⟨#[]⟩, .int .i64 30]) ∧ w' = w := by
  go_enter Try.func70, Try.ntmps70
  go_wp2
  all_goals first | (go_ret2; exact ⟨rfl, rfl⟩) | (exfalso; omega)

theorem num_any (n : Nat) (hn : n ≤ 1125899906842624) (w : World) :
    Calls Try.prog 70 #[.int .i64 (n : Int)] w fun e w' => e = .returned (.tuple #[strV (num n), .int .i64 0]) ∧ Below w.heap.size w w' := by
  have h0 : ¬ (1125899906842624 : Int) < (n : Int) := by omega
  go_enter Try.func70, Try.ntmps70
  go_wp2_with fail
  refine (numBytes_any n hn _).mono ?_
  rintro e w1 ⟨rfl, hb⟩
  go_wp2
  go_ret2
  exact ⟨rfl, hb⟩

end Go.Proofs.Ytbgankldnjeohaa.Pk