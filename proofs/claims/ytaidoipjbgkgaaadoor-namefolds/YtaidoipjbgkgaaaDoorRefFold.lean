/- The walk of the document's Fold. -/
import Derived.Test.YtaidoipjbgkgaaaDoorRefIs
import Derived.Test.YtaidoipjbgkgaaaDoorFoldW
import Derived.Test.YtaidoipjbgkgaaaDoorMathE
set_option linter.unusedVariables false
set_option linter.unusedSimpArgs false
namespace Go.Proofs.YtaidoipjbgkgaaaDoor
open Go.RowKit

theorem low_yes (r : Nat) (h : (65 ≤ r ∧ r ≤ 90) ∨ r = 196 ∨ r = 214 ∨ r = 220 ∨ (913 ≤ r ∧ r ≤ 937 ∧ r ≠ 930)) : (r : Int) + 32 = ((NameMath.low r : Nat) : Int) := by
  have : NameMath.great r = true := by simp [NameMath.great]; omega
  simp [NameMath.low, this]
theorem low_no (r : Nat) (h : ¬ ((65 ≤ r ∧ r ≤ 90) ∨ r = 196 ∨ r = 214 ∨ r = 220 ∨ (913 ≤ r ∧ r ≤ 937 ∧ r ≠ 930))) : (r : Int) = ((NameMath.low r : Nat) : Int) := by
  have : NameMath.great r = false := by simp [NameMath.great]; omega
  simp [NameMath.low, this]

set_option maxHeartbeats 2000000 in
theorem refSmall_any (r : Nat) (hr : r ≤ 1114111) (w : World) :
    Calls Tryd.prog 28 #[.int .i64 (r : Int)] w fun e w' => e = .returned (.int .i64 ((NameMath.low r : Nat) : Int)) ∧ w' = w := by
  go_enter Tryd.func28, Tryd.ntmps28
  go_wp2
  all_goals go_ret
  all_goals go_light
  all_goals refine ⟨ret_int ?_, rfl⟩
  all_goals try simp only [beq_iff_eq, beq_eq_false_iff_ne, ne_eq, bne_iff_ne, bne_eq_false_iff_eq, Bool.not_eq_true', Bool.not_eq_false', decide_eq_true_eq, decide_eq_false_iff_not] at *
  all_goals show (_ : Int) = _
  all_goals first | exact low_yes r (by omega) | exact low_no r (by omega) | (have := low_yes r (by omega); omega)

/-- A slice of one byte, or of two, that was just made, turned into a text. -/
theorem conv_one (w : World) (x : UInt8) : (convert 35 9 (.slice (some ⟨w.heap.size, 0, none⟩) 1 1)).run Tryd.prog (w.alloc (.cells #[.int .u8 (x.toNat : Int)] 5)) = .ok (.string ⟨#[x]⟩) (w.alloc (.cells #[.int .u8 (x.toNat : Int)] 5)) := by
  have := run_convert_bytes_arg (P := Tryd.prog) (w.alloc (.cells #[.int .u8 (x.toNat : Int)] 5)) 35 5 Tryd.underlying35 Tryd.underlying5 w.heap.size 0 1 1 [(x.toNat : Int)] rfl (fun i hi => by
    obtain rfl : i = 0 := by omega
    simp) 9 Tryd.underlying9
  rw [this]
  simp [strOfNums]
theorem conv_two (w : World) (x y : UInt8) : (convert 35 9 (.slice (some ⟨w.heap.size, 0, none⟩) 2 2)).run Tryd.prog (w.alloc (.cells #[.int .u8 (x.toNat : Int), .int .u8 (y.toNat : Int)] 5)) = .ok (.string ⟨#[x, y]⟩) (w.alloc (.cells #[.int .u8 (x.toNat : Int), .int .u8 (y.toNat : Int)] 5)) := by
  have := run_convert_bytes_arg (P := Tryd.prog) (w.alloc (.cells #[.int .u8 (x.toNat : Int), .int .u8 (y.toNat : Int)] 5)) 35 5 Tryd.underlying35 Tryd.underlying5 w.heap.size 0 2 2 [(x.toNat : Int), (y.toNat : Int)] rfl (fun i hi => by
    rcases (show i = 0 ∨ i = 1 by omega) with rfl | rfl <;> simp) 9 Tryd.underlying9
  rw [this]
  simp [strOfNums]

set_option maxRecDepth 100000 in
set_option maxHeartbeats 2000000 in
theorem refFold_any (s : ByteArray) (hs : s.size ≤ 140737488351232) (w : World) :
    Calls Tryd.prog 13 #[.string s] w fun e w' => e = .returned (strV (NameMath.fold s.data.toList)) ∧ Below w.heap.size w w' := by
  go_enter Tryd.func13, Tryd.ntmps13
  go_wp2
  go_loopw [3, 4] (fun out t wr => ∃ (pos : Nat) (o : ByteArray), pos ≤ s.size ∧ t = .int .i64 pos ∧ out = .string o ∧ o.size = pos ∧ Below w.heap.size w wr ∧ Hid (NameMath.fold s.data.toList = o.data.toList ++ NameMath.fold (s.data.toList.drop pos))) (fun _ t _ => s.size - (intOf t).toNat)
  case atStart => exact ⟨0, ⟨#[]⟩, Nat.zero_le _, rfl, rfl, rfl, Below.refl _ _, rfl⟩
  case round =>
    obtain ⟨pos, o, hpos, rfl, rfl, ho, hbw, HI⟩ := hrel
    by_cases hlt : pos < s.size
    · go_wp2_with fail
      refine (next_any s pos hlt hs _).mono ?_
      rintro e w1 ⟨r, k, ok, rfl, rfl, hdec, hok⟩
      obtain ⟨hr, hk1, hk2, hrun, hcut, hne⟩ := next_use s pos hlt hdec
      have hfc := NameMath.fold_cons _ hne
      rw [hdec, List.drop_drop] at hfc
      rw [hfc] at HI
      clear hrun hcut hne hok hfc
      have HO : Hid (o.size = pos) := ho
      have hos : o.size ≤ s.size := by omega
      clear ho
      by_cases hl : NameMath.low r = r
      · have hq : (((NameMath.low r : Nat) : Int) == (r : Int)) = true := by rw [hl]; simp
        have HE : Hid (NameMath.fold s.data.toList = (o ++ s.extract pos (pos + k)).data.toList ++ NameMath.fold (s.data.toList.drop (pos + k))) := by
          show _ = _
          rw [HI.out, ByteArray.data_append, Array.toList_append, extract_data, NameMath.fold1, if_pos hl, Nat.add_sub_cancel_left, List.append_assoc]
        clear HI hdec
        have HL : Hid _ := hl
        clear hl
        go_wp2_with (go_at_call 28; refine (refSmall_any r hr _).mono ?_; rintro e w' ⟨rfl, hw'⟩; rw [hw']; clear hw' w')
        exact ⟨⟨pos + k, _, hk2, by go_num, rfl, by rw [ByteArray.size_append, HO.out, ByteArray.size_extract]; omega, hbw, HE⟩, by simp [intOf]; omega⟩
      · have hg : NameMath.great r = true := by
          cases hg : NameMath.great r with
          | true => rfl
          | false => exact absurd (by simp [NameMath.low, hg]) hl
        have hq : (((NameMath.low r : Nat) : Int) == (r : Int)) = false := beq_eq_false_iff_ne.2 (by omega)
        have hlb := NameMath.great_bound r hl
        have hel := NameMath.dec_great _ r k hdec hg
        have HI2 : Hid (NameMath.fold s.data.toList = (o.data.toList ++ NameMath.enc (NameMath.low r)) ++ NameMath.fold (s.data.toList.drop (pos + k))) := by
          show _ = _
          rw [HI.out, NameMath.fold1, if_neg hl, List.append_assoc]
        clear HI hdec hg hl
        have HSM : Hid (∀ w, Calls Tryd.prog 28 #[.int .i64 (r : Int)] w fun e w' => e = .returned (.int .i64 ((NameMath.low r : Nat) : Int)) ∧ w' = w) := fun w => refSmall_any r hr w
        generalize NameMath.low r = lo at *
        by_cases h128 : lo < 128
        · have ex : (UInt8.ofNat lo).toNat = lo := UInt8.toNat_ofNat_of_lt' (by show _ < 256; omega)
          have hcv := conv_one w1 (UInt8.ofNat lo)
          rw [ex] at hcv
          have HE : Hid (NameMath.fold s.data.toList = (o ++ ⟨#[UInt8.ofNat lo]⟩).data.toList ++ NameMath.fold (s.data.toList.drop (pos + k))) := by
            show _ = _
            rw [HI2.out, ByteArray.data_append, Array.toList_append, NameMath.enc, if_pos h128]
          have hk : Hid (k = 1) := by show _ = _; rw [← hel, NameMath.enc, if_pos h128]; rfl
          clear HI2 hel ex
          go_wp2_with (go_at_call 28; refine (HSM.out _).mono ?_; rintro e w' ⟨rfl, hw'⟩; rw [hw']; clear hw' w')
          exact ⟨⟨pos + k, _, hk2, by go_num, rfl, by rw [ByteArray.size_append, HO.out, hk.out]; rfl, hbw.alloc hbw.size _, HE⟩, by simp [intOf]; omega⟩
        · have hx : ((UInt8.ofNat (192 + lo / 64)).toNat : Int) = 192 + (lo : Int) / 64 := by rw [UInt8.toNat_ofNat_of_lt' (by show _ < 256; omega)]; omega
          have hy : ((UInt8.ofNat (128 + lo % 64)).toNat : Int) = 128 + (lo : Int) % 64 := by rw [UInt8.toNat_ofNat_of_lt' (by show _ < 256; omega)]; omega
          have hcv := conv_two w1 (UInt8.ofNat (192 + lo / 64)) (UInt8.ofNat (128 + lo % 64))
          rw [hx, hy] at hcv
          have HE : Hid (NameMath.fold s.data.toList = (o ++ ⟨#[UInt8.ofNat (192 + lo / 64), UInt8.ofNat (128 + lo % 64)]⟩).data.toList ++ NameMath.fold (s.data.toList.drop (pos + k))) := by
            show _ = _
            rw [HI2.out, ByteArray.data_append, Array.toList_append, NameMath.enc, if_neg h128]
          have hk : Hid (k = 2) := by show _ = _; rw [← hel, NameMath.enc, if_neg h128]; rfl
          clear HI2 hel hx hy
          generalize UInt8.ofNat (192 + lo / 64) = x at *
          generalize UInt8.ofNat (128 + lo % 64) = y at *
          go_wp2_with (go_at_call 28; refine (HSM.out _).mono ?_; rintro e w' ⟨rfl, hw'⟩; rw [hw']; clear hw' w')
          exact ⟨⟨pos + k, _, hk2, by go_num, rfl, by rw [ByteArray.size_append, HO.out, hk.out]; rfl, hbw.alloc hbw.size _, HE⟩, by simp [intOf]; omega⟩
    · rw [drop_end s pos hlt] at HI
      have HE : Hid (NameMath.fold s.data.toList = o.data.toList) := by show _ = _; rw [HI.out]; simp [NameMath.fold_nil]
      clear HI
      go_wp2
      go_ret
      refine ⟨?_, hbw⟩
      rw [HE.out, strV_data]
      rfl
end Go.Proofs.YtaidoipjbgkgaaaDoor
