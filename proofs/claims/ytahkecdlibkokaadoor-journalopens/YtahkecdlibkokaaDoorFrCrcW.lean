/- The walks of package crc. -/
import Derived.Test.YtahkecdlibkokaaDoorProg
import Derived.Test.YtahkecdlibkokaaDoorFrMath
import Derived.WalkKit
import Derived.WalkSpells
import Derived.WalkLawsBesides
import Derived.Laws.BitsAllLaws
set_option maxRecDepth 100000
namespace Go.Proofs.YtahkecdlibkokaaDoor.Fr
open Go.RowKit

/-- The table of sixteen numbers lies in the world. -/
def Tab (w : World) : Prop := ∀ i : Nat, i < 16 → w.cell? ⟨0, i, none⟩ = some (.int .u32 ((CrcMath.tab.getD i 0 : Nat) : Int))

theorem and15 (c : Nat) (h : c < 4294967296) : bits .and .u32 (c : Int) 15 = ((c % 16 : Nat) : Int) := by
  rw [show (15 : Int) = ((15 : Nat) : Int) from rfl, u32_and_nat c 15 h (by decide), show (15 : Nat) = 2 ^ 4 - 1 from rfl, Nat.and_two_pow_sub_one_eq_mod]

set_option maxHeartbeats 400000 in
theorem four_any (c : Nat) (hc : c < 4294967296) (w : World) (hT : Tab w) :
    Calls Tryd.prog 81 #[.int .u32 (c : Int)] w fun e w' => e = .returned (.int .u32 ((CrcMath.four c : Nat) : Int)) ∧ w' = w := by
  have h15 := and15 c hc
  have ht := hT (c % 16) (Nat.mod_lt _ (by decide))
  have hm : c % 16 < 16 := Nat.mod_lt _ (by decide)
  have hf : bits .xor .u32 ((c : Int) / 16) ((CrcMath.tab[c % 16]?.getD 0 : Nat) : Int) = ((CrcMath.four c : Nat) : Int) := by
    have hlt : CrcMath.tab[c % 16]?.getD 0 < 4294967296 := by
      have : ∀ r, r < 16 → CrcMath.tab[r]?.getD 0 < 4294967296 := by decide
      exact this _ hm
    rw [show (c : Int) / 16 = ((c / 16 : Nat) : Int) from by omega, u32_xor_nat _ _ (by omega) hlt]
    rfl
  have HF : Hid (bits .xor .u32 ((c : Int) / 16) ((CrcMath.tab[c % 16]?.getD 0 : Nat) : Int) = ((CrcMath.four c : Nat) : Int)) := hf
  clear hf
  generalize c % 16 = r at *
  go_enter Tryd.func81, Tryd.ntmps81
  go_wp2
  go_ret
  rw [HF.out]
  exact ⟨rfl, rfl⟩

theorem not_u32 (c : Nat) (h : c < 4294967296) : bits .xor .u32 IntKind.u32.max (c : Int) = ((CrcMath.flip c : Nat) : Int) := by
  rw [show IntKind.u32.max = ((4294967295 : Nat) : Int) from rfl, u32_xor_nat _ _ (by decide) h]
  unfold CrcMath.flip
  rw [Nat.xor_comm]
theorem xor_u32 (c : Nat) (b : UInt8) (h : c < 4294967296) : bits .xor .u32 (c : Int) ((b.toNat : Int) % 4294967296) = ((c ^^^ b.toNat : Nat) : Int) := by
  have := b.toNat_lt
  rw [show (b.toNat : Int) % 4294967296 = (b.toNat : Int) from by omega]
  rw [u32_xor_nat _ _ h (by omega)]
theorem xor_lt (c : Nat) (b : UInt8) (h : c < 4294967296) : c ^^^ b.toNat < 4294967296 :=
  Nat.xor_lt_two_pow (n := 32) h (by have := b.toNat_lt; omega)
theorem four_lt (c : Nat) (h : c < 4294967296) : CrcMath.four c < 4294967296 := by
  rw [CrcMath.four_eq]; exact CrcMath.steps_lt 4 c h
theorem flip_lt (c : Nat) (h : c < 4294967296) : CrcMath.flip c < 4294967296 := CrcMath.flip_lt c h
theorem run_lt (c : Nat) (l : List UInt8) (h : c < 4294967296) : CrcMath.run c l < 4294967296 := CrcMath.run_lt l c h

theorem take_snoc (s : ByteArray) (k : Nat) (h : k < s.size) : s.data.toList.take (k + 1) = s.data.toList.take k ++ [s[k]] := by
  rw [List.take_succ_eq_append_getElem (by simpa using h)]; rfl
theorem run_snoc (c : Nat) (l : List UInt8) (b : UInt8) : CrcMath.run c (l ++ [b]) = CrcMath.byt (CrcMath.run c l) b := by
  unfold CrcMath.run; rw [List.foldl_append]; rfl

set_option maxHeartbeats 1000000 in
theorem extend_any (c : Nat) (s : ByteArray) (hc : c < 4294967296) (hs : s.size ≤ maxLen) (w : World) (hT : Tab w) :
    Calls Tryd.prog 79 #[.int .u32 (c : Int), .string s] w fun e w' => e = .returned (.int .u32 ((CrcMath.ext c s.data.toList : Nat) : Int)) ∧ w' = w := by
  unfold maxLen at hs
  go_enter Tryd.func79, Tryd.ntmps79
  go_wp2
  rw [not_u32 c hc]
  have hf := flip_lt c hc
  have HE : Hid (CrcMath.ext c s.data.toList = CrcMath.flip (CrcMath.run (CrcMath.flip c) s.data.toList)) := rfl
  generalize CrcMath.flip c = d at *
  go_loop [5, 6, 11] (fun st _ i => ∃ k : Nat, k ≤ s.size ∧ i = .int .i64 k ∧ st = .int .u32 ((CrcMath.run d (s.data.toList.take k) : Nat) : Int)) (fun _ _ i => s.size - (intOf i).toNat)
  case atStart => exact ⟨0, Nat.zero_le _, rfl, rfl⟩
  case round =>
    obtain ⟨k, hk, rfl, rfl⟩ := hrel
    have hr := run_lt d (s.data.toList.take k) hf
    by_cases hlt : k < s.size
    · have HS : Hid (CrcMath.run d (s.data.toList.take (k + 1)) = CrcMath.byt (CrcMath.run d (s.data.toList.take k)) s[k]) := by
        rw [take_snoc s k hlt]; exact run_snoc _ _ _
      generalize CrcMath.run d (s.data.toList.take k) = c1 at *
      have hx := xor_lt c1 s[k] hr
      have hx4 := four_lt _ hx
      go_wp2_with fail
      rw [xor_u32 c1 s[k] hr]
      refine (four_any _ hx _ hT).mono ?_
      rintro e w1 ⟨rfl, rfl⟩
      go_wp2_with fail
      refine (four_any _ hx4 _ hT).mono ?_
      rintro e w2 ⟨rfl, rfl⟩
      go_wp2_with fail
      go_round
      case rel => exact ⟨k + 1, by omega, by go_num, by rw [HS.out, CrcMath.byt_four]⟩
      case measure => simp [intOf]; omega
    · go_wp2
      go_ret
      rw [not_u32 _ hr, HE.out, List.take_of_length_le (by simp; omega)]
      exact ⟨rfl, rfl⟩

theorem sum_any (s : ByteArray) (hs : s.size ≤ maxLen) (w : World) (hT : Tab w) :
    Calls Tryd.prog 80 #[.string s] w fun e w' => e = .returned (.int .u32 ((CrcMath.ext 0 s.data.toList : Nat) : Int)) ∧ w' = w := by
  have hx := extend_any 0 s (by decide) hs w hT
  go_enter Tryd.func80, Tryd.ntmps80
  go_wp2_with fail
  refine hx.mono ?_
  rintro e w1 ⟨rfl, rfl⟩
  go_wp2_with fail
  go_ret
  exact ⟨rfl, rfl⟩

end Go.Proofs.YtahkecdlibkokaaDoor.Fr