/- The walks of the document's answer for package frame: four, Wrap. -/
import Derived.Test.YtahkecdlibkokaaDoorFrLowW
import Derived.Test.YtahkecdlibkokaaDoorFrCrcRefW
set_option linter.unusedVariables false
set_option maxRecDepth 100000
namespace Go.Proofs.YtahkecdlibkokaaDoor.Fr
open Go.RowKit
open FrameMath (le le_length)

theorem conv_four (w : World) (a b c d : Int) : (convert 99 9 (.slice (some ⟨w.heap.size, 0, none⟩) 4 4)).run Tryd.prog (w.alloc (.cells #[.int .u8 a, .int .u8 b, .int .u8 c, .int .u8 d] 5)) = .ok (.string (strOfNums [a, b, c, d])) (w.alloc (.cells #[.int .u8 a, .int .u8 b, .int .u8 c, .int .u8 d] 5)) := by
  exact run_convert_bytes_arg (P := Tryd.prog) _ 99 5 Tryd.underlying99 Tryd.underlying5 w.heap.size 0 4 4 [a, b, c, d] rfl (fun i hi => by
    match i, hi with
    | 0, _ => simp
    | 1, _ => simp
    | 2, _ => simp
    | 3, _ => simp) 9 Tryd.underlying9
theorem conv_three (w : World) (a b c : Int) : (convert 99 9 (.slice (some ⟨w.heap.size, 0, none⟩) 3 3)).run Tryd.prog (w.alloc (.cells #[.int .u8 a, .int .u8 b, .int .u8 c] 5)) = .ok (.string (strOfNums [a, b, c])) (w.alloc (.cells #[.int .u8 a, .int .u8 b, .int .u8 c] 5)) := by
  exact run_convert_bytes_arg (P := Tryd.prog) _ 99 5 Tryd.underlying99 Tryd.underlying5 w.heap.size 0 3 3 [a, b, c] rfl (fun i hi => by
    match i, hi with
    | 0, _ => simp
    | 1, _ => simp
    | 2, _ => simp) 9 Tryd.underlying9
theorem nums_bytes (l : List UInt8) : strOfNums (l.map fun b => (b.toNat : Int)) = ⟨l.toArray⟩ := by
  unfold strOfNums
  simp [Function.comp_def]
theorem byte_of (n j : Nat) : (n : Int) / (2 ^ j : Nat) % 256 = (((UInt8.ofNat (n / 2 ^ j)).toNat : Nat) : Int) := by
  rw [UInt8.toNat_ofNat']
  omega
theorem four_list (n : Nat) (hn : n < 4294967296) : strOfNums [(n : Int) % 256, (n : Int) / 256 % 256, (n : Int) / 65536 % 256, (n : Int) / 16777216] = ⟨(le 4 n).toArray⟩ := by
  rw [show (n : Int) / 16777216 = (n : Int) / 16777216 % 256 by omega]
  rw [← nums_bytes]
  congr 1
  have h0 := byte_of n 0
  have h1 := byte_of n 8
  have h2 := byte_of n 16
  have h3 := byte_of n 24
  have e : le 4 n = [UInt8.ofNat (n / 2 ^ 0), UInt8.ofNat (n / 2 ^ 8), UInt8.ofNat (n / 2 ^ 16), UInt8.ofNat (n / 2 ^ 24)] := by
    simp [le, Nat.div_div_eq_div_mul]
  rw [e]
  simp only [List.map_cons, List.map_nil, ← h0, ← h1, ← h2, ← h3]
  simp

theorem three_list (n : Nat) (hn : n < 16777216) : strOfNums [(n : Int) % 256, (n : Int) / 256 % 256, (n : Int) / 65536] = ⟨(le 3 n).toArray⟩ := by
  rw [show (n : Int) / 65536 = (n : Int) / 65536 % 256 by omega]
  rw [← nums_bytes]
  congr 1
  have h0 := byte_of n 0
  have h1 := byte_of n 8
  have h2 := byte_of n 16
  have e : le 3 n = [UInt8.ofNat (n / 2 ^ 0), UInt8.ofNat (n / 2 ^ 8), UInt8.ofNat (n / 2 ^ 16)] := by
    simp [le, Nat.div_div_eq_div_mul]
  rw [e]
  simp only [List.map_cons, List.map_nil, ← h0, ← h1, ← h2]
  simp

set_option maxHeartbeats 1000000 in
theorem refFour_any (n : Nat) (hn : n < 4294967296) (w : World) :
    Calls Tryd.prog 65 #[.int .u32 (n : Int)] w fun e w' => e = .returned (strV (le 4 n)) ∧ Below w.heap.size w w' := by
  have hc := conv_four w ((n : Int) % 256) ((n : Int) / 256 % 256) ((n : Int) / 65536 % 256) ((n : Int) / 16777216)
  rw [four_list n hn] at hc
  go_enter Tryd.func65, Tryd.ntmps65
  go_wp2
  go_ret
  exact ⟨rfl, (Below.refl _ _).alloc (Nat.le_refl _) _⟩

theorem refWrap_long (s : ByteArray) (hs : 200000 < s.size) (hz : s.size ≤ 140737488351232) (w : World) :
    Calls Tryd.prog 55 #[.string s] w fun e w' => e = .returned (.tuple #[.string ⟨#[]⟩, .int .i64 2]) ∧ w' = w := by
  have h : (200000 : Int) < (s.size : Int) := by omega
  go_enter Tryd.func55, Tryd.ntmps55
  go_wp2
  go_ret2
  exact ⟨rfl, rfl⟩
set_option maxHeartbeats 1000000 in
theorem refWrap_any (s : ByteArray) (hs : s.size ≤ 200000) (w : World) :
    Calls Tryd.prog 55 #[.string s] w fun e w' => e = .returned (.tuple #[strV (FrameMath.wrap s.data.toList), .int .i64 0]) ∧ Below w.heap.size w w' := by
  obtain ⟨a, ha⟩ : ∃ a, a = ByteArray.mk (le 3 s.size).toArray := ⟨_, rfl⟩
  have ha' : a.data.toList = le 3 s.size := by rw [ha]
  have haz : a.size = 3 := by rw [← size_data, ha', le_length]
  obtain ⟨b, hb⟩ : ∃ b, b = ByteArray.mk (le 4 (CrcMath.ext 0 (le 3 s.size ++ s.data.toList))).toArray := ⟨_, rfl⟩
  have hb' : b.data.toList = le 4 (CrcMath.ext 0 (le 3 s.size ++ s.data.toList)) := by rw [hb]
  have hbz : b.size = 4 := by rw [← size_data, hb', le_length]
  have hd := wrap_data s a b ha' hb'
  have hcv := conv_three w ((s.size : Int) % 256) ((s.size : Int) / 256 % 256) ((s.size : Int) / 65536)
  rw [three_list s.size (by omega), ← ha] at hcv
  have hex : CrcMath.ext 0 (a ++ s).data.toList = CrcMath.ext 0 (le 3 s.size ++ s.data.toList) := by
    have e : (a ++ s).data.toList = le 3 s.size ++ s.data.toList := by simp [ByteArray.data_append, ha']
    rw [e]
  have hlt : CrcMath.ext 0 (le 3 s.size ++ s.data.toList) < 4294967296 := CrcMath.ext_lt _ _ (by decide)
  have X1 : Hid (∀ w, Calls Tryd.prog 64 #[.string (a ++ s)] w fun e w' => e = .returned (.int .u32 ((CrcMath.ext 0 (le 3 s.size ++ s.data.toList) : Nat) : Int)) ∧ w' = w) := by
    intro w
    have := refSum_any (a ++ s) (by rw [ByteArray.size_append]; unfold maxLen; omega) w
    rw [hex] at this
    exact this
  have X2 : Hid (∀ w, Calls Tryd.prog 65 #[.int .u32 ((CrcMath.ext 0 (le 3 s.size ++ s.data.toList) : Nat) : Int)] w fun e w' => e = .returned (.string b) ∧ Below w.heap.size w w') := by
    intro w
    have := refFour_any _ hlt w
    unfold strV at this
    rw [← hb] at this
    exact this
  unfold strV
  rw [← hd]
  have h0 : ¬ (200000 : Int) < (s.size : Int) := by omega
  have h1 : (s.size : Int) ≤ 200000 := by omega
  generalize CrcMath.ext 0 (le 3 s.size ++ s.data.toList) = ex at *
  clear hd ha ha' hb hb' hex
  go_enter Tryd.func55, Tryd.ntmps55
  go_wp2_with fail
  refine (X1.out _).mono ?_
  rintro e w1 ⟨rfl, hw1⟩
  rw [hw1]
  clear hw1
  go_wp2_with fail
  refine (X2.out _).mono ?_
  rintro e w2 ⟨rfl, hb2⟩
  go_wp2_with fail
  go_ret2
  exact ⟨rfl, ((Below.refl _ w).alloc (Nat.le_refl _) _).trans (hb2.mono (by simp))⟩
end Go.Proofs.YtahkecdlibkokaaDoor.Fr