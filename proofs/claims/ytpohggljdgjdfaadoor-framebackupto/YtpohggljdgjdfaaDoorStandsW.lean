/- The walk of the law FrameStands. -/
import Derived.Test.YtpohggljdgjdfaaDoorLiveW
set_option linter.unusedVariables false
namespace Go.Proofs.YtpohggljdgjdfaaDoor
open Go.RowKit
open FrameMath (first scan used wrap wraps)

/-- The frames of some records, as a text. -/
def framed (xs : List (List UInt8)) : ByteArray := ⟨(wraps xs).toArray⟩
theorem framed_size (xs : List (List UInt8)) : (framed xs).size = used xs := by
  unfold framed
  rw [strV_size, FrameMath.wraps_length]
theorem framed_snoc (xs : List (List UInt8)) (x : List UInt8) : framed xs ++ ⟨(wrap x).toArray⟩ = framed (xs ++ [x]) := by
  apply ByteArray.ext
  apply Array.ext'
  unfold framed
  rw [FrameMath.wraps_append, FrameMath.wraps_one]
  simp [ByteArray.data_append]
theorem used_take_le (xs : List (List UInt8)) (k : Nat) : used (xs.take k) ≤ used xs := by
  have h := FrameMath.used_append (xs.take k) (xs.drop k)
  rw [List.take_append_drop] at h
  omega
/-- A record wrapped, by what is known of its length. -/
theorem wrap_list (x : List UInt8) (hx : x.length ≤ 200000) (w : World) (hT : Tab w) :
    Calls Tryd.prog 9 #[.string ⟨x.toArray⟩] w fun e w' => e = .returned (.tuple #[.string ⟨(wrap x).toArray⟩, .int .i64 0]) ∧ Below w.heap.size w w' := by
  have := wrap_any ⟨x.toArray⟩ (by rw [strV_size]; exact hx) w hT
  rw [mk_data] at this
  exact this

set_option maxHeartbeats 2000000 in
theorem frameStands_walk (s : ByteArray) (hs : s.size ≤ 1048576) (w : World) (hT : Tab w) :
    Calls Tryd.prog 6 #[.string s] w fun e w' => e = .returned (.bool true) ∧ Below w.heap.size w w' := by
  have hul := FrameMath.used_le s.data.toList
  have hlen := FrameMath.scan_length s.data.toList
  have hfit := (FrameMath.scan_stands s.data.toList).1
  have hag := FrameMath.scan_again s.data.toList
  have hwr := FrameMath.wraps_scan s.data.toList
  rw [size_data] at hul hlen
  have c1 := fun w hT => scan_any s (by omega) w hT
  unfold ScanV at c1
  have c2 := fun w hT => scan_any (s.extract 0 (used (scan s.data.toList))) (by rw [ByteArray.size_extract]; omega) w hT
  unfold ScanV at c2
  rw [extract_data, List.drop_zero, Nat.sub_zero, hag] at c2
  have hfr : (framed (scan s.data.toList)).toList = (s.extract 0 (used (scan s.data.toList))).toList := by
    rw [Lib.toList_data, Lib.toList_data, extract_data, List.drop_zero, Nat.sub_zero]
    unfold framed
    rw [mk_data]
    exact hwr
  clear hag hwr
  generalize scan s.data.toList = xs at *
  have hut := used_take_le xs
  generalize hn : used xs = n at *
  have C1 : Hid (∀ w, Tab w → Calls Tryd.prog 12 #[.string s] w fun e w' => ∃ v, e = .returned (.tuple #[v, .int .i64 (n : Int)]) ∧ w'.ownsRow (w.heap.size + 3) 9 1 v xs.length (xs.map strV) ∧ Below w.heap.size w w') := c1
  have C2 : Hid (∀ w, Tab w → Calls Tryd.prog 12 #[.string (s.extract 0 n)] w fun e w' => ∃ v, e = .returned (.tuple #[v, .int .i64 (n : Int)]) ∧ w'.ownsRow (w.heap.size + 3) 9 1 v xs.length (xs.map strV) ∧ Below w.heap.size w w') := c2
  have HFR : Hid ((framed xs).toList = (s.extract 0 n).toList) := hfr
  have HFIT : Hid (∀ r ∈ xs, r.length ≤ 200000) := hfit
  have HUT : Hid (∀ k, used (xs.take k) ≤ n) := hut
  have hx : xs.length ≤ 140737488355328 := by omega
  have HT : Hid (Tab w) := hT
  have n0 : (0 : Int) ≤ (n : Int) := by omega
  have n1 : (n : Int) ≤ (s.size : Int) := by omega
  clear c1 c2 hT hfr hfit hut hn
  go_enter Tryd.func6, Tryd.ntmps6
  go_wp2_with fail
  refine (C1.out _ HT.out).mono ?_
  rintro e w1 ⟨v1, rfl, hown1, hb1⟩
  go_wp2_with fail
  refine (C2.out _ (tab_below HT.out hb1)).mono ?_
  rintro e w2 ⟨v2, rfl, hown2, hb2⟩
  have hb02 : Below w.heap.size w w2 := hb1.trans (hb2.mono hb1.size)
  have hs1 : SRow w2 v1 xs := srow_below (srow_own hown1) hb2
  have hs2 : SRow w2 v2 xs := srow_own hown2
  clear hown1 hown2 hb1 hb2
  go_wp2_with fail
  refine (same_true xs hx v1 v2 w2 hs1 hs2).mono ?_
  rintro e w3 ⟨rfl, q, hw3⟩
  have hb23 : Below w2.heap.size w2 w3 := by rw [hw3]; exact below_drewN (Below.refl _ _) q
  have hb03 : Below w.heap.size w w3 := hb02.trans (hb23.mono hb02.size)
  have HS1 : Hid (SRow w3 v1 xs) := srow_below hs1 hb23
  obtain ⟨ao, cap, rfl, _, _⟩ := hs1
  clear hs2 hw3 hb23 hb02
  go_wp2_with fail
  go_loopw [7, 8] (fun t i wr => ∃ k : Nat, k ≤ xs.length ∧ i = .int .i64 k ∧ t = .string (framed (xs.take k)) ∧ Hid (SRow wr (.slice ao xs.length cap) xs) ∧ Hid (Below w.heap.size w wr)) (fun _ i _ => xs.length - (intOf i).toNat)
  case atStart => exact ⟨0, Nat.zero_le _, rfl, rfl, HS1, hb03⟩
  case round =>
    obtain ⟨k, hk, rfl, rfl, HS, HB⟩ := hrel
    clear HS1 hb03
    by_cases hlt : k < xs.length
    · obtain ⟨g, o, rfl, hc⟩ := srow_cell HS.out k hlt
      have hfk := HFIT.out xs[k] (List.getElem_mem hlt)
      have e1 : xs.take (k + 1) = xs.take k ++ [xs[k]] := List.take_succ_eq_append_getElem hlt
      have HSN : Hid (framed (xs.take k) ++ ⟨(wrap xs[k]).toArray⟩ = framed (xs.take (k + 1))) := by
        show _ = _
        rw [e1]; exact framed_snoc _ _
      have z1 : (framed (xs.take k)).size ≤ 1048576 := by rw [framed_size]; have := HUT.out k; omega
      have z2 : (ByteArray.mk (wrap xs[k]).toArray).size ≤ 200008 := by rw [strV_size, FrameMath.wrap_length]; omega
      unfold strV at hc
      generalize xs[k] = x at *
      have HW : Hid (∀ w, Tab w → Calls Tryd.prog 9 #[.string ⟨x.toArray⟩] w fun e w' => e = .returned (.tuple #[.string ⟨(wrap x).toArray⟩, .int .i64 0]) ∧ Below w.heap.size w w') := fun w hT => wrap_list x hfk w hT
      generalize framed (xs.take k) = tk at *
      generalize ByteArray.mk (wrap x).toArray = fx at *
      generalize ByteArray.mk x.toArray = bx at *
      have i1 : (k : Int) < (xs.length : Int) := by omega
      clear e1 hfk
      go_wp2_with fail
      refine (HW.out _ (tab_below HT.out HB.out)).mono ?_
      rintro e w4 ⟨rfl, hb4⟩
      have HS4 : Hid (SRow w4 (.slice (some ⟨g, o, none⟩) xs.length cap) xs) := srow_below HS.out hb4
      have HB4 : Hid (Below w.heap.size w w4) := HB.out.trans (hb4.mono HB.out.size)
      clear HS HB hb4 hc
      go_wp2
      exact ⟨⟨k + 1, by omega, by go_num, by rw [HSN.out], HS4, HB4⟩, by simp [intOf]; omega⟩
    · have hk' : xs.take k = xs := List.take_of_length_le (by omega)
      have hq : ((framed (xs.take k)).toList == (s.extract 0 n).toList) = true := by rw [hk', HFR.out]; exact beq_self_eq_true _
      generalize framed (xs.take k) = tk at *
      clear hk'
      go_wp2_with fail
      refine (live_any _ (tab_below HT.out HB.out)).mono ?_
      rintro e w4 ⟨rfl, hb4⟩
      go_wp2_with fail
      go_ret
      exact ⟨rfl, HB.out.trans (hb4.mono HB.out.size)⟩
end Go.Proofs.YtpohggljdgjdfaaDoor
