/- The walks of the laws CrcSums, CrcExtends, CrcParts, CrcApart. -/
import Derived.Test.YtjpfbbpgmcjnfaaDoorRef
import Derived.Below
namespace Go.Proofs.YtjpfbbpgmcjnfaaDoor
open Go.RowKit

theorem sums_walk (s : ByteArray) (hs : s.size ≤ maxLen) (w : World) (hT : Tab w) :
    Calls Tryd.prog 3 #[.string s] w fun e w' => e = .returned (.bool true) ∧ Below w.heap.size w w' := by
  go_enter Tryd.func3, Tryd.ntmps3
  go_wp2_with fail
  refine (sum_any s hs _ hT).mono ?_
  rintro e w1 ⟨rfl, rfl⟩
  go_wp2_with fail
  refine (sum_any s hs _ hT).mono ?_
  rintro e w1 ⟨rfl, rfl⟩
  go_wp2_with fail
  refine (refSum_any s hs _).mono ?_
  rintro e w1 ⟨rfl, rfl⟩
  go_wp2_with fail
  refine (live_any _ hT).mono ?_
  rintro e w1 ⟨rfl, rfl⟩
  go_wp2_with fail
  go_ret
  exact ⟨rfl, Below.refl _ _⟩

theorem extends_walk (c : Nat) (s : ByteArray) (hc : c < 4294967296) (hs : s.size ≤ maxLen) (w : World) (hT : Tab w) :
    Calls Tryd.prog 4 #[.int .u32 (c : Int), .string s] w fun e w' => e = .returned (.bool true) ∧ Below w.heap.size w w' := by
  go_enter Tryd.func4, Tryd.ntmps4
  go_wp2_with fail
  refine (extend_any c s hc hs _ hT).mono ?_
  rintro e w1 ⟨rfl, rfl⟩
  go_wp2_with fail
  refine (extend_any c s hc hs _ hT).mono ?_
  rintro e w1 ⟨rfl, rfl⟩
  go_wp2_with fail
  refine (refExtend_any c s hc hs _).mono ?_
  rintro e w1 ⟨rfl, rfl⟩
  go_wp2_with fail
  refine (live_any _ hT).mono ?_
  rintro e w1 ⟨rfl, rfl⟩
  go_wp2_with fail
  go_ret
  exact ⟨rfl, Below.refl _ _⟩

theorem apart_walk (x y : Nat) (s : ByteArray) (hx : x < 4294967296) (hy : y < 4294967296) (hs : s.size ≤ maxLen) (w : World) (hT : Tab w) :
    Calls Tryd.prog 8 #[.int .u32 (x : Int), .int .u32 (y : Int), .string s] w fun e w' => e = .returned (.bool true) ∧ Below w.heap.size w w' := by
  have hq : (((CrcMath.ext x s.data.toList : Nat) : Int) == ((CrcMath.ext y s.data.toList : Nat) : Int)) = ((x : Int) == (y : Int)) := by
    rw [Bool.eq_iff_iff]
    simp only [beq_iff_eq]
    constructor
    · intro h
      have := CrcMath.ext_inj x y s.data.toList hx hy (by omega)
      omega
    · intro h
      have : x = y := by omega
      rw [this]
  have HQ : Hid ((((CrcMath.ext x s.data.toList : Nat) : Int) == ((CrcMath.ext y s.data.toList : Nat) : Int)) = ((x : Int) == (y : Int))) := hq
  clear hq
  go_enter Tryd.func8, Tryd.ntmps8
  go_wp2_with fail
  refine (live_any _ hT).mono ?_
  rintro e w1 ⟨rfl, rfl⟩
  go_wp2_with fail
  refine (extend_any x s hx hs _ hT).mono ?_
  rintro e w1 ⟨rfl, rfl⟩
  go_wp2_with fail
  refine (extend_any y s hy hs _ hT).mono ?_
  rintro e w1 ⟨rfl, rfl⟩
  go_wp2_with fail
  rw [HQ.out]
  go_ret
  exact ⟨by simp, Below.refl _ _⟩

theorem parts_walk (c : Nat) (a b : ByteArray) (hc : c < 4294967296) (ha : a.size ≤ 140737488355328) (hb : b.size ≤ 140737488355328) (w : World) (hT : Tab w) :
    Calls Tryd.prog 5 #[.int .u32 (c : Int), .string a, .string b] w fun e w' => e = .returned (.bool true) ∧ Below w.heap.size w w' := by
  have ha' : a.size ≤ maxLen := by unfold maxLen; omega
  have hb' : b.size ≤ maxLen := by unfold maxLen; omega
  have hab : (a ++ b).size ≤ maxLen := by rw [ByteArray.size_append]; unfold maxLen; omega
  have hd : (a ++ b).data.toList = a.data.toList ++ b.data.toList := by simp [ByteArray.data_append]
  have h1 : CrcMath.ext (CrcMath.ext 0 a.data.toList) b.data.toList = CrcMath.ext 0 (a ++ b).data.toList := by rw [hd]; exact CrcMath.ext_append _ _ _
  have h2 : CrcMath.ext (CrcMath.ext c a.data.toList) b.data.toList = CrcMath.ext c (a ++ b).data.toList := by rw [hd]; exact CrcMath.ext_append _ _ _
  have h3 : CrcMath.ext c (ByteArray.mk #[]).data.toList = c := CrcMath.ext_nil c
  have l1 : CrcMath.ext 0 a.data.toList < 4294967296 := CrcMath.ext_lt _ _ (by decide)
  have l2 : CrcMath.ext c a.data.toList < 4294967296 := CrcMath.ext_lt _ _ hc
  have x1 := fun w hT => sum_any a ha' w hT
  have x2 := fun w hT => extend_any (CrcMath.ext 0 a.data.toList) b l1 hb' w hT
  have x3 := fun w hT => sum_any (a ++ b) hab w hT
  have x4 := fun w hT => extend_any c a hc ha' w hT
  have x5 := fun w hT => extend_any (CrcMath.ext c a.data.toList) b l2 hb' w hT
  have x6 := fun w hT => extend_any c (a ++ b) hc hab w hT
  have x7 := fun w hT => extend_any c (ByteArray.mk #[]) hc (by decide) w hT
  rw [h1] at x2
  rw [h2] at x5
  rw [h3] at x7
  clear h1 h2 h3 hd
  generalize CrcMath.ext 0 a.data.toList = e1 at *
  generalize CrcMath.ext c a.data.toList = e2 at *
  generalize CrcMath.ext 0 (a ++ b).data.toList = e3 at *
  generalize CrcMath.ext c (a ++ b).data.toList = e4 at *
  have X1 : Hid _ := x1
  have X2 : Hid _ := x2
  have X3 : Hid _ := x3
  have X4 : Hid _ := x4
  have X5 : Hid _ := x5
  have X6 : Hid _ := x6
  have X7 : Hid _ := x7
  clear x1 x2 x3 x4 x5 x6 x7
  go_enter Tryd.func5, Tryd.ntmps5
  go_wp2_with fail
  refine (live_any _ hT).mono ?_
  rintro e w1 ⟨rfl, rfl⟩
  go_wp2_with fail
  refine (X1.out _ hT).mono ?_
  rintro e w1 ⟨rfl, rfl⟩
  go_wp2_with fail
  refine (X2.out _ hT).mono ?_
  rintro e w1 ⟨rfl, rfl⟩
  go_wp2_with fail
  refine (X3.out _ hT).mono ?_
  rintro e w1 ⟨rfl, rfl⟩
  go_wp2_with fail
  refine (X4.out _ hT).mono ?_
  rintro e w1 ⟨rfl, rfl⟩
  go_wp2_with fail
  refine (X5.out _ hT).mono ?_
  rintro e w1 ⟨rfl, rfl⟩
  go_wp2_with fail
  refine (X6.out _ hT).mono ?_
  rintro e w1 ⟨rfl, rfl⟩
  go_wp2_with fail
  refine (X7.out _ hT).mono ?_
  rintro e w1 ⟨rfl, rfl⟩
  go_wp2_with fail
  go_ret
  exact ⟨rfl, Below.refl _ _⟩
end Go.Proofs.YtjpfbbpgmcjnfaaDoor
