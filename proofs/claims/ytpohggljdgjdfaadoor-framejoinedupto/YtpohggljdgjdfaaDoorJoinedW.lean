/- The walk of the law FrameJoined. -/
import Derived.Test.YtpohggljdgjdfaaDoorGoodW
set_option linter.unusedVariables false
namespace Go.Proofs.YtpohggljdgjdfaaDoor
open Go.RowKit
open FrameMath (first scan used wrap wraps fits)

set_option maxHeartbeats 2000000 in
theorem frameJoined_walk (xs : List (List UInt8)) (rest : ByteArray) (hxs : bulk xs ≤ 1048576) (hr : rest.size ≤ 1048576) (v : Value) (w : World) (hv : SRow w v xs) (hT : Tab w) :
    Calls Tryd.prog 8 #[v, .string rest] w fun e w' => e = .returned (.bool true) ∧ Below w.heap.size w w' := by
  have hxl := bulk_len xs
  have HT : Hid (Tab w) := hT
  have HS1 : Hid (SRow w v xs) := hv
  obtain ⟨ao, cap, rfl, _, _⟩ := hv
  have HBK : Hid (bulk xs ≤ 1048576) := hxs
  clear hT hxs
  have hxl' : xs.length ≤ 1048576 := by have := HBK.out; omega
  clear hxl
  go_enter Tryd.func8, Tryd.ntmps8
  go_wp2_with fail
  go_loopw [5, 6, 7] (fun s n i wr => ∃ k : Nat, k ≤ xs.length ∧ i = .int .i64 k ∧ n = .int .i64 ((good (xs.take k)).length : Int) ∧ s = .string (framed (good (xs.take k))) ∧ Hid (Below w.heap.size w wr)) (fun _ _ i _ => xs.length - (intOf i).toNat)
  case atStart => exact ⟨0, Nat.zero_le _, rfl, rfl, rfl, Below.refl _ _⟩
  case round =>
    obtain ⟨k, hk, rfl, rfl, rfl, HB⟩ := hrel
    by_cases hlt : k < xs.length
    · obtain ⟨g, o, rfl, hc⟩ := srow_cell (srow_below HS1.out HB.out) k hlt
      have hgl := good_le xs k
      have hgc := good_count xs k
      have z1 : (framed (good (xs.take k))).size ≤ 8388608 := by rw [framed_size]; have := HBK.out; omega
      have z3 : (good (xs.take k)).length ≤ 1048576 := by have := HBK.out; omega
      have i1 : (k : Int) < (xs.length : Int) := by omega
      unfold strV at hc
      by_cases hfk : xs[k].length ≤ 200000
      · have e1 := good_yes xs k hlt hfk
        have HSN : Hid (framed (good (xs.take k)) ++ ⟨(wrap xs[k]).toArray⟩ = framed (good (xs.take (k + 1)))) := by
          show _ = _
          rw [e1]; exact framed_snoc _ _
        have HGN : Hid (((good (xs.take (k + 1))).length : Int) = ((good (xs.take k)).length : Int) + 1) := by
          show _ = _
          rw [e1, List.length_append]; simp
        have z2 : (ByteArray.mk (wrap xs[k]).toArray).size ≤ 200008 := by rw [strV_size, FrameMath.wrap_length]; omega
        have HW : Hid (∀ w, Tab w → Calls Tryd.prog 9 #[.string ⟨xs[k].toArray⟩] w fun e w' => e = .returned (.tuple #[.string ⟨(wrap xs[k]).toArray⟩, .int .i64 0]) ∧ Below w.heap.size w w') := fun w hT => wrap_list xs[k] hfk w hT
        generalize xs[k] = x at *
        clear e1 hgl hgc hfk
        generalize framed (good (xs.take k)) = tk at *
        generalize (good (xs.take k)).length = nk at *
        generalize ByteArray.mk (wrap x).toArray = fx at *
        generalize ByteArray.mk x.toArray = bx at *
        go_wp2_with fail
        refine (HW.out _ (tab_below HT.out HB.out)).mono ?_
        rintro e w4 ⟨rfl, hb4⟩
        have HB4 : Hid (Below w.heap.size w w4) := HB.out.trans (hb4.mono HB.out.size)
        clear HB hb4 hc
        go_wp2
        exact ⟨⟨k + 1, by omega, by go_num, by rw [HGN.out], by rw [HSN.out], HB4⟩, by simp [intOf]; omega⟩
      · have e1 := good_no xs k hlt hfk
        have HSN : Hid (good (xs.take (k + 1)) = good (xs.take k)) := e1
        have HW : Hid (∀ w, Calls Tryd.prog 9 #[.string ⟨xs[k].toArray⟩] w fun e w' => e = .returned (.tuple #[.string ⟨#[]⟩, .int .i64 2]) ∧ w' = w) := fun w => wrap_long ⟨xs[k].toArray⟩ (by rw [strV_size]; omega) w
        generalize xs[k] = x at *
        clear e1 hgl hgc hfk
        generalize ByteArray.mk x.toArray = bx at *
        go_wp2_with fail
        refine (HW.out _).mono ?_
        rintro e w4 ⟨rfl, hw4⟩
        rw [hw4]
        clear hw4 hc
        go_wp2
        exact ⟨⟨k + 1, by omega, by go_num, by rw [HSN.out], by rw [HSN.out], HB⟩, by simp [intOf]; omega⟩
    · have hk' : xs.take k = xs := List.take_of_length_le (by omega)
      rw [hk']
      have hgl := good_used xs
      have hgc : (good xs).length ≤ bulk xs := by have := good_count xs xs.length; rwa [List.take_length] at this
      have hsc := FrameMath.scan_length rest.data.toList
      have hul := FrameMath.used_le rest.data.toList
      rw [size_data] at hsc hul
      have z1 : (framed (good xs)).size ≤ 8388608 := by rw [framed_size]; have := HBK.out; omega
      have z3 : (good xs).length ≤ 1048576 := by have := HBK.out; omega
      have hall : scan (framed (good xs) ++ rest).data.toList = good xs ++ scan rest.data.toList := by
        rw [← FrameMath.scan_wraps (good xs) rest.data.toList (good_fits xs)]
        unfold framed
        simp [ByteArray.data_append]
      have c1 := fun w hT => scan_any rest (by omega) w hT
      have c2 := fun w hT => scan_any (framed (good xs) ++ rest) (by rw [ByteArray.size_append]; omega) w hT
      unfold ScanV at c1 c2
      rw [hall, FrameMath.used_append, ← framed_size (good xs)] at c2
      clear hgl hgc hall hk' hk
      generalize scan rest.data.toList = ys at *
      generalize hn : used ys = n at *
      generalize hF : framed (good xs) = F at *
      generalize good xs = gs at *
      have C1 : Hid (∀ w, Tab w → Calls Tryd.prog 12 #[.string rest] w fun e w' => ∃ v, e = .returned (.tuple #[v, .int .i64 (n : Int)]) ∧ w'.ownsRow (w.heap.size + 3) 9 1 v ys.length (ys.map strV) ∧ Below w.heap.size w w') := c1
      have C2 : Hid (∀ w, Tab w → Calls Tryd.prog 12 #[.string (F ++ rest)] w fun e w' => ∃ v, e = .returned (.tuple #[v, .int .i64 ((F.size + n : Nat) : Int)]) ∧ w'.ownsRow (w.heap.size + 3) 9 1 v (gs ++ ys).length ((gs ++ ys).map strV) ∧ Below w.heap.size w w') := c2
      have hyl : ys.length ≤ 140737488355328 := by omega
      have hnz : n ≤ 1048576 := by omega
      clear c1 c2 hF hn hsc hul
      go_wp2_with fail
      refine (C1.out _ (tab_below HT.out HB.out)).mono ?_
      rintro e w1 ⟨v1, rfl, hown1, hb1⟩
      have hb01 : Below w.heap.size w w1 := HB.out.trans (hb1.mono HB.out.size)
      go_wp2_with fail
      refine (C2.out _ (tab_below HT.out hb01)).mono ?_
      rintro e w2 ⟨v2, rfl, hown2, hb2⟩
      have HB02 : Hid (Below w.heap.size w w2) := hb01.trans (hb2.mono hb01.size)
      have HS1' : Hid (SRow w2 v1 ys) := srow_below (srow_own hown1) hb2
      have HS2' : Hid (SRow w2 v2 (gs ++ ys)) := srow_own hown2
      obtain ⟨ao1, cap1, rfl, _, _⟩ := own_row hown1
      rw [List.length_append] at hown2
      rcases own_some hown2 with ⟨rfl, h0⟩ | ⟨g2, cap2, rfl, hc2⟩
      · obtain ⟨rfl, rfl⟩ : gs = [] ∧ ys = [] := ⟨List.eq_nil_of_length_eq_zero (by omega), List.eq_nil_of_length_eq_zero (by omega)⟩
        have hs2 : SRow w2 (.slice none 0 0) [] := HS2'.out
        have hs1 : SRow w2 (.slice ao1 0 cap1) [] := HS1'.out
        clear hown1 hown2
        go_wp2_with fail
        refine (same_true [] (by decide) _ _ w2 hs2 hs1).mono ?_
        rintro e w3 ⟨rfl, q, hw3⟩
        have hb3 : Below w.heap.size w w3 := by rw [hw3]; exact below_drewN HB02.out q
        clear hw3
        go_wp2_with fail
        refine (live_any _ (tab_below HT.out hb3)).mono ?_
        rintro e w4 ⟨rfl, hb4⟩
        go_wp2_with fail
        go_ret
        exact ⟨rfl, hb3.trans (hb4.mono hb3.size)⟩
      · have HS3 : Hid (SRow w2 (.slice (some ⟨g2, gs.length, none⟩) ys.length (cap2 - gs.length)) ys) := by
          have h1 := HS2'.out
          rw [← List.length_append] at h1
          have := srow_drop gs.length ys.length (by rw [List.length_append]) h1
          rwa [List.drop_left] at this
        have hc3 := hc2.1
        have hc4 := hc2.2
        unfold maxLen at hc4
        clear hown1 hown2 hc2
        by_cases hcap : cap2 = gs.length
        · obtain rfl : ys = [] := List.eq_nil_of_length_eq_zero (by omega)
          have hs3 : SRow w2 (.slice (some ⟨g2, 0, none⟩) 0 0) [] := ⟨_, _, rfl, ⟨Nat.le_refl _, fun h => by cases h⟩, fun j hj => by cases hj⟩
          have hs1 : SRow w2 (.slice ao1 0 cap1) [] := HS1'.out
          subst hcap
          clear HS3
          go_wp2_with fail
          refine (same_true [] (by decide) _ _ w2 hs3 hs1).mono ?_
          rintro e w3 ⟨rfl, q, hw3⟩
          have hb3 : Below w.heap.size w w3 := by rw [hw3]; exact below_drewN HB02.out q
          clear hw3
          go_wp2_with fail
          refine (live_any _ (tab_below HT.out hb3)).mono ?_
          rintro e w4 ⟨rfl, hb4⟩
          go_wp2_with fail
          go_ret
          exact ⟨rfl, hb3.trans (hb4.mono hb3.size)⟩
        · have hcp : (gs.length : Int) < (cap2 : Int) := by omega
          go_wp2_with fail
          refine (same_true ys hyl _ _ w2 HS3.out HS1'.out).mono ?_
          rintro e w3 ⟨rfl, q, hw3⟩
          have hb3 : Below w.heap.size w w3 := by rw [hw3]; exact below_drewN HB02.out q
          clear hw3
          go_wp2_with fail
          refine (live_any _ (tab_below HT.out hb3)).mono ?_
          rintro e w4 ⟨rfl, hb4⟩
          go_wp2_with fail
          go_ret
          exact ⟨rfl, hb3.trans (hb4.mono hb3.size)⟩
end Go.Proofs.YtpohggljdgjdfaaDoor
