/- The walk of the law FrameBack. -/
import Derived.Test.YtpohggljdgjdfaaDoorGoodW
set_option linter.unusedVariables false
namespace Go.Proofs.YtpohggljdgjdfaaDoor
open Go.RowKit
open FrameMath (first scan used wrap wraps fits)

/-- How many bytes the last frame has; 0: there is none. -/
def lastOf (gs : List (List UInt8)) : Nat := match gs.getLast? with
  | none => 0
  | some r => r.length + 8
theorem lastOf_snoc (gs : List (List UInt8)) (r : List UInt8) : lastOf (gs ++ [r]) = r.length + 8 := by unfold lastOf; simp
theorem lastOf_le (gs : List (List UInt8)) : lastOf gs ≤ used gs := by
  rcases List.eq_nil_or_concat gs with rfl | ⟨rs, r, rfl⟩
  · exact Nat.zero_le _
  · rw [List.concat_eq_append, lastOf_snoc, FrameMath.used_append]
    show _ ≤ used rs + (r.length + 8 + 0)
    omega
theorem cut_neg (a : Int) (n : Nat) (h : a < 0) (hn : 0 < n) : ∃ f : Nat, (a + 1).tmod (n : Int) = -(f : Int) ∧ f < n := by
  have e : -(a + 1).tmod (n : Int) = (-(a + 1)) % (n : Int) := by
    rw [← Int.neg_tmod, Int.tmod_eq_emod_of_nonneg (by omega)]
  have h1 := Int.emod_nonneg (-(a + 1)) (by omega : (n : Int) ≠ 0)
  have h2 := Int.emod_lt_of_pos (-(a + 1)) (by omega : (0 : Int) < (n : Int))
  exact ⟨((-(a + 1)) % (n : Int)).toNat, by omega, by omega⟩
theorem cut_pos (a : Int) (n : Nat) (hn : 0 < n) : ∃ f : Nat, a % (n : Int) = (f : Int) ∧ f < n := by
  have h1 := Int.emod_nonneg a (by omega : (n : Int) ≠ 0)
  have h2 := Int.emod_lt_of_pos a (by omega : (0 : Int) < (n : Int))
  exact ⟨(a % (n : Int)).toNat, by omega, by omega⟩
/-- What Scan tells of frames with some of the last one's bytes cut off. -/
theorem back_cut (rs : List (List UInt8)) (r : List UInt8) (h : fits (rs ++ [r])) (hu : used (rs ++ [r]) ≤ 8388608) (k n : Nat) (hk : 1 ≤ k) (hk2 : k ≤ r.length + 8) (hn : n + k = used (rs ++ [r])) (w : World) (hT : Tab w) :
    Calls Tryd.prog 12 #[.string ((framed (rs ++ [r])).extract 0 n)] w fun e w' => ∃ v, e = .returned (.tuple #[v, .int .i64 (used rs : Int)]) ∧ w'.ownsRow (w.heap.size + 3) 9 1 v rs.length (rs.map strV) ∧ Below w.heap.size w w' := by
  have hz : ((framed (rs ++ [r])).extract 0 n).size ≤ 70368744177664 := by
    rw [ByteArray.size_extract, framed_size]; omega
  have hus : used (rs ++ [r]) = used rs + (r.length + 8) := FrameMath.used_append rs [r]
  have := scan_any ((framed (rs ++ [r])).extract 0 n) hz w hT
  unfold ScanV at this
  have e : scan ((framed (rs ++ [r])).extract 0 n).data.toList = rs := by
    rw [extract_data, List.drop_zero, Nat.sub_zero]
    unfold framed
    rw [mk_data, show n = used rs + (r.length + 8 - k) by omega]
    exact FrameMath.scan_cut rs r _ h (by omega)
  rw [e] at this
  exact this

set_option maxHeartbeats 1000000 in
theorem frameBack_walk (xs : List (List UInt8)) (cut : Int) (hcut : -9223372036854775808 ≤ cut ∧ cut ≤ 9223372036854775807) (hxs : bulk xs ≤ 1048576) (v : Value) (w : World) (hv : SRow w v xs) (hT : Tab w) :
    Calls Tryd.prog 5 #[v, .int .i64 cut] w fun e w' => e = .returned (.bool true) ∧ Below w.heap.size w w' := by
  obtain ⟨i0, hi, hz0, hz1, hz2⟩ := info_parts infoS
  have hxl := bulk_len xs
  have HT : Hid (Tab w) := hT
  have HS1 : Hid (SRow w v xs) := hv
  obtain ⟨ao, cap, rfl, _, _⟩ := hv
  have HBK : Hid (bulk xs ≤ 1048576) := hxs
  have hc1 := hcut.1
  have hc2 := hcut.2
  have hxl' : xs.length ≤ 1048576 := by have := HBK.out; omega
  clear hT hxs hxl hcut
  go_enter Tryd.func5, Tryd.ntmps5
  go_wp2_with fail
  go_loopw [5, 6, 7, 8] (fun s g l i wr => ∃ k : Nat, k ≤ xs.length ∧ i = .int .i64 k ∧ l = .int .i64 (lastOf (good (xs.take k)) : Int) ∧ s = .string (framed (good (xs.take k))) ∧ Hid (wr.ownsRow w.heap.size 9 1 g (good (xs.take k)).length ((good (xs.take k)).map strV)) ∧ Hid (Below w.heap.size w wr)) (fun _ _ _ i _ => xs.length - (intOf i).toNat)
  case atStart => exact ⟨0, Nat.zero_le _, rfl, rfl, rfl, World.ownsRow_nil _ _ _ _, Below.refl _ _⟩
  case round =>
    obtain ⟨k, hk, rfl, rfl, rfl, HO, HB⟩ := hrel
    by_cases hlt : k < xs.length
    · obtain ⟨g, o, rfl, hc⟩ := srow_cell (srow_below HS1.out HB.out) k hlt
      have hgl := good_le xs k
      have hgc := good_count xs k
      have z1 : (framed (good (xs.take k))).size ≤ 8388608 := by rw [framed_size]; have := HBK.out; omega
      have z3 : (good (xs.take k)).length ≤ 1048576 := by have := HBK.out; omega
      have z5 : xs[k].length ≤ 1048576 := by have := bulk_mem xs k hlt; have := HBK.out; omega
      have i1 : (k : Int) < (xs.length : Int) := by omega
      have HLT : Hid (k < xs.length) := hlt
      have hxz := strV_size xs[k]
      unfold strV at hc
      by_cases hfk : xs[k].length ≤ 200000
      · have e1 := good_yes xs k hlt hfk
        have HSN : Hid (framed (good (xs.take k)) ++ ⟨(wrap xs[k]).toArray⟩ = framed (good (xs.take (k + 1)))) := by
          show _ = _
          rw [e1]; exact framed_snoc _ _
        have HGN : Hid (good (xs.take (k + 1)) = good (xs.take k) ++ [xs[k]]) := e1
        have HLA : Hid ((lastOf (good (xs.take (k + 1))) : Int) = ((ByteArray.mk (wrap xs[k]).toArray).size : Int)) := by
          show _ = _
          rw [e1, lastOf_snoc, strV_size, FrameMath.wrap_length]
          rfl
        have z2 : (ByteArray.mk (wrap xs[k]).toArray).size ≤ 200008 := by rw [strV_size, FrameMath.wrap_length]; omega
        have z4 : ((ByteArray.mk xs[k].toArray).size : Int) ≤ 200000 := by rw [hxz]; omega
        have HW : Hid (∀ w, Tab w → Calls Tryd.prog 9 #[.string ⟨xs[k].toArray⟩] w fun e w' => e = .returned (.tuple #[.string ⟨(wrap xs[k]).toArray⟩, .int .i64 0]) ∧ Below w.heap.size w w') := fun w hT => wrap_list xs[k] hfk w hT
        have hown0 := HO.out
        obtain ⟨ga, gcap, hgv, _, _⟩ := own_row hown0
        clear hxz
        generalize hX : xs[k] = x at *
        clear e1 hgl hgc hfk z5
        generalize framed (good (xs.take k)) = tk at *
        generalize hGS : good (xs.take k) = gs at *
        generalize lastOf gs = lk at *
        generalize ByteArray.mk (wrap x).toArray = fx at *
        generalize hBX : ByteArray.mk x.toArray = bx at *
        have HBX : Hid (Value.string bx = strV x) := by show _ = _; rw [← hBX]; rfl
        clear hBX hX hGS HO
        subst hgv
        have HOWN : Hid (wr.ownsRow w.heap.size 9 1 (.slice ga gs.length gcap) gs.length (gs.map strV)) := hown0
        clear hown0
        go_wp2_with fail
        refine (HW.out _ (tab_below HT.out HB.out)).mono ?_
        rintro e w4 ⟨rfl, hb4⟩
        have hown4 := own_below HOWN.out hb4
        have hb04 : Below w.heap.size w w4 := HB.out.trans (hb4.mono HB.out.size)
        have HB04 : Hid (Below w.heap.size w w4) := hb04
        have hc4 : w4.cell? ⟨g, o + k, none⟩ = some (.string bx) := by rw [hb4.cell (p := ⟨g, o + k, none⟩) (block_lt_of_cell hc)]; exact hc
        have hsz := hb04.size
        clear HB hb4 hc hb04 HOWN
        go_wp2_with (at_builtin; refine wpList_append_own _ rfl _ _ 27 rfl w.heap.size 9 i0 (.string ⟨#[]⟩) 1 16 Tryd.underlying27 hi hz0 hz1 hz2 rfl (by decide) _ _ _ rfl (hown4.alloc _) ⟨_, 0, none⟩ 1 1 [.string bx] rfl rfl (one_new _ _ _) (one_cell _) (by unfold maxLen; omega) (by omega) (by simp; omega) ?_)
        intro v' w5 hown' hgrow hnn
        have HB5 : Hid (Below w.heap.size w w5) := below_append HB04.out hown4 hgrow
        have HO5 : Hid (w5.ownsRow w.heap.size 9 1 v' (good (xs.take (k + 1))).length ((good (xs.take (k + 1))).map strV)) := by
          show World.ownsRow _ _ _ _ _ _ _
          rw [HGN.out]
          refine own_cast (by simp) ?_ hown'
          rw [HBX.out]
          simp
        clear hown' hgrow hnn hown4 HB04 hc4
        go_wp2
        exact ⟨⟨k + 1, by have := HLT.out; omega, by go_num, by rw [HLA.out], by rw [HSN.out], HO5, HB5⟩, by have := HLT.out; simp [intOf]; omega⟩
      · have e1 := good_no xs k hlt hfk
        have HSN : Hid (good (xs.take (k + 1)) = good (xs.take k)) := e1
        have HW : Hid (∀ w, Calls Tryd.prog 9 #[.string ⟨xs[k].toArray⟩] w fun e w' => e = .returned (.tuple #[.string ⟨#[]⟩, .int .i64 2]) ∧ w' = w) := fun w => wrap_long ⟨xs[k].toArray⟩ (by rw [strV_size]; omega) w
        have z4 : ¬ ((ByteArray.mk xs[k].toArray).size : Int) ≤ 200000 := by rw [hxz]; omega
        have z6 : (200000 : Int) < ((ByteArray.mk xs[k].toArray).size : Int) := by omega
        clear hxz
        generalize hX : xs[k] = x at *
        clear e1 hgl hgc hfk z5
        generalize ByteArray.mk x.toArray = bx at *
        go_wp2_with fail
        refine (HW.out _).mono ?_
        rintro e w4 ⟨rfl, hw4⟩
        rw [hw4]
        clear hw4
        go_wp2
        exact ⟨⟨k + 1, by have := HLT.out; omega, by go_num, by rw [HSN.out], by rw [HSN.out], by rw [HSN.out]; exact HO, HB⟩, by have := HLT.out; simp [intOf]; omega⟩
    · have hk' : xs.take k = xs := List.take_of_length_le (by omega)
      rw [hk'] at HO ⊢
      have hgl := good_used xs
      have z1 : used (good xs) ≤ 8388608 := by have := HBK.out; omega
      have hfit := good_fits xs
      clear hgl hk' hk
      generalize good xs = gs at *
      have c1 := fun w hT => scan_any (framed gs) (by rw [framed_size]; omega) w hT
      unfold ScanV at c1
      rw [show scan (framed gs).data.toList = gs by unfold framed; rw [mk_data]; exact FrameMath.scan_all gs hfit] at c1
      have C1 : Hid (∀ w, Tab w → Calls Tryd.prog 12 #[.string (framed gs)] w fun e w' => ∃ v, e = .returned (.tuple #[v, .int .i64 (used gs : Int)]) ∧ w'.ownsRow (w.heap.size + 3) 9 1 v gs.length (gs.map strV) ∧ Below w.heap.size w w') := c1
      have hfz := framed_size gs
      have hgl : gs.length ≤ 140737488355328 := by have := FrameMath.used_ge gs; omega
      clear c1
      obtain ⟨ga, gcap, hgv, _, _⟩ := own_row HO.out
      subst hgv
      have HS0 : Hid (SRow wr (.slice ga gs.length gcap) gs) := srow_own HO.out
      rcases List.eq_nil_or_concat gs with rfl | ⟨rs, r, hrs⟩
      · clear hfit
        have hs0 : SRow wr (.slice ga 0 gcap) [] := HS0.out
        clear HO HS0
        go_wp2_with fail
        refine (C1.out _ (tab_below HT.out HB.out)).mono ?_
        rintro e w1 ⟨v1, rfl, hown1, hb1⟩
        have hb01 : Below w.heap.size w w1 := HB.out.trans (hb1.mono HB.out.size)
        have hs2 : SRow w1 (.slice ga 0 gcap) [] := srow_below hs0 hb1
        have hs1 : SRow w1 v1 [] := srow_own hown1
        obtain ⟨ao1, cap1, rfl, _, _⟩ := own_row hown1
        clear hown1 hs0 hb1
        go_wp2_with fail
        refine (same_true [] (by decide) _ _ w1 hs1 hs2).mono ?_
        rintro e w2 ⟨rfl, q, hw2⟩
        have hb2 : Below w.heap.size w w2 := by rw [hw2]; exact below_drewN hb01 q
        clear hw2
        go_wp2_with fail
        refine (live_any _ (tab_below HT.out hb2)).mono ?_
        rintro e w4 ⟨rfl, hb4⟩
        go_wp2_with fail
        go_ret
        exact ⟨rfl, hb2.trans (hb4.mono hb2.size)⟩
      · rw [List.concat_eq_append] at hrs
        have hgl1 : gs.length = rs.length + 1 := by rw [hrs]; simp
        have hus : used gs = used rs + (r.length + 8) := by rw [hrs]; exact FrameMath.used_append rs [r]
        have hla : lastOf gs = r.length + 8 := by rw [hrs]; exact lastOf_snoc rs r
        have HTK : Hid (gs.take rs.length = rs) := by show _ = _; rw [hrs]; exact List.take_left
        have HC2 : Hid (∀ k n : Nat, 1 ≤ k → k ≤ r.length + 8 → n + k = used gs → ∀ w, Tab w → Calls Tryd.prog 12 #[.string ((framed gs).extract 0 n)] w fun e w' => ∃ v, e = .returned (.tuple #[v, .int .i64 (used rs : Int)]) ∧ w'.ownsRow (w.heap.size + 3) 9 1 v rs.length (rs.map strV) ∧ Below w.heap.size w w') := by
          intro k n h1 h2 h3 w hT
          rw [hrs] at h3 hfit z1 ⊢
          exact back_cut rs r hfit z1 k n h1 h2 h3 w hT
        rw [hla]
        clear hfit hrs HO hla
        generalize hU : used gs = U at *
        generalize used rs = Ur at *
        generalize framed gs = F at *
        generalize hL : r.length + 8 = L at *
        have hLp : 0 < L := by omega
        clear hL hU
        have HG1 : Hid (gs.length = rs.length + 1) := hgl1
        rw [hgl1] at HS0
        by_cases hneg : cut < 0
        · obtain ⟨f, hfe, hf⟩ := cut_neg cut L hneg hLp
          have C2 : Hid (∀ w, Tab w → Calls Tryd.prog 12 #[.string (F.extract 0 (Ur + L - (1 + f)))] w fun e w' => ∃ v, e = .returned (.tuple #[v, .int .i64 (Ur : Int)]) ∧ w'.ownsRow (w.heap.size + 3) 9 1 v rs.length (rs.map strV) ∧ Below w.heap.size w w') := HC2.out (1 + f) (Ur + L - (1 + f)) (by omega) (by omega) (by omega)
          clear HC2
          go_wp2_with fail
          refine (C1.out _ (tab_below HT.out HB.out)).mono ?_
          rintro e w1 ⟨v1, rfl, hown1, hb1⟩
          have hb01 : Below w.heap.size w w1 := HB.out.trans (hb1.mono HB.out.size)
          have HS2 : Hid (SRow w1 (.slice ga (rs.length + 1) gcap) gs) := srow_below HS0.out hb1
          have HS1' : Hid (SRow w1 v1 gs) := srow_own hown1
          obtain ⟨ao1, cap1, rfl, _, _⟩ := own_row hown1
          rw [HG1.out] at HS1'
          clear hown1 hb1
          go_wp2_with fail
          refine (same_true gs hgl _ _ w1 HS1'.out HS2.out).mono ?_
          rintro e w2 ⟨rfl, q, hw2⟩
          have hb12 : Below w1.heap.size w1 w2 := by rw [hw2]; exact below_drewN (Below.refl _ _) q
          have hb02 : Below w.heap.size w w2 := hb01.trans (hb12.mono hb01.size)
          have HS3 : Hid (SRow w2 (.slice ga (rs.length + 1) gcap) gs) := srow_below HS2.out hb12
          clear hw2 hb12 hb01 HS1' HS2
          go_wp2_with fail
          refine (C2.out _ (tab_below HT.out hb02)).mono ?_
          rintro e w3 ⟨v3, rfl, hown3, hb3⟩
          have hb03 : Below w.heap.size w w3 := hb02.trans (hb3.mono hb02.size)
          have HS4 : Hid (SRow w3 (.slice ga rs.length gcap) rs) := by
            have hx := srow_below HS3.out hb3
            rw [← HG1.out] at hx
            have := srow_take rs.length (by omega) hx
            rwa [HTK.out] at this
          have HS5 : Hid (SRow w3 v3 rs) := srow_own hown3
          obtain ⟨ao3, cap3, rfl, _, _⟩ := own_row hown3
          clear hown3 hb3 hb02 HS3
          go_wp2_with fail
          refine (same_true rs (by omega) _ _ w3 HS5.out HS4.out).mono ?_
          rintro e w4 ⟨rfl, q, hw4⟩
          have hb04 : Below w.heap.size w w4 := by rw [hw4]; exact below_drewN hb03 q
          clear hw4 hb03
          go_wp2_with fail
          refine (live_any _ (tab_below HT.out hb04)).mono ?_
          rintro e w5 ⟨rfl, hb5⟩
          go_wp2_with fail
          go_ret
          exact ⟨rfl, hb04.trans (hb5.mono hb04.size)⟩
        · obtain ⟨f, hfe, hf⟩ := cut_pos cut L hLp
          have C2 : Hid (∀ w, Tab w → Calls Tryd.prog 12 #[.string (F.extract 0 (Ur + L - (1 + f)))] w fun e w' => ∃ v, e = .returned (.tuple #[v, .int .i64 (Ur : Int)]) ∧ w'.ownsRow (w.heap.size + 3) 9 1 v rs.length (rs.map strV) ∧ Below w.heap.size w w') := HC2.out (1 + f) (Ur + L - (1 + f)) (by omega) (by omega) (by omega)
          clear HC2
          go_wp2_with fail
          refine (C1.out _ (tab_below HT.out HB.out)).mono ?_
          rintro e w1 ⟨v1, rfl, hown1, hb1⟩
          have hb01 : Below w.heap.size w w1 := HB.out.trans (hb1.mono HB.out.size)
          have HS2 : Hid (SRow w1 (.slice ga (rs.length + 1) gcap) gs) := srow_below HS0.out hb1
          have HS1' : Hid (SRow w1 v1 gs) := srow_own hown1
          obtain ⟨ao1, cap1, rfl, _, _⟩ := own_row hown1
          rw [HG1.out] at HS1'
          clear hown1 hb1
          go_wp2_with fail
          refine (same_true gs hgl _ _ w1 HS1'.out HS2.out).mono ?_
          rintro e w2 ⟨rfl, q, hw2⟩
          have hb12 : Below w1.heap.size w1 w2 := by rw [hw2]; exact below_drewN (Below.refl _ _) q
          have hb02 : Below w.heap.size w w2 := hb01.trans (hb12.mono hb01.size)
          have HS3 : Hid (SRow w2 (.slice ga (rs.length + 1) gcap) gs) := srow_below HS2.out hb12
          clear hw2 hb12 hb01 HS1' HS2
          go_wp2_with fail
          refine (C2.out _ (tab_below HT.out hb02)).mono ?_
          rintro e w3 ⟨v3, rfl, hown3, hb3⟩
          have hb03 : Below w.heap.size w w3 := hb02.trans (hb3.mono hb02.size)
          have HS4 : Hid (SRow w3 (.slice ga rs.length gcap) rs) := by
            have hx := srow_below HS3.out hb3
            rw [← HG1.out] at hx
            have := srow_take rs.length (by omega) hx
            rwa [HTK.out] at this
          have HS5 : Hid (SRow w3 v3 rs) := srow_own hown3
          obtain ⟨ao3, cap3, rfl, _, _⟩ := own_row hown3
          clear hown3 hb3 hb02 HS3
          go_wp2_with fail
          refine (same_true rs (by omega) _ _ w3 HS5.out HS4.out).mono ?_
          rintro e w4 ⟨rfl, q, hw4⟩
          have hb04 : Below w.heap.size w w4 := by rw [hw4]; exact below_drewN hb03 q
          clear hw4 hb03
          go_wp2_with fail
          refine (live_any _ (tab_below HT.out hb04)).mono ?_
          rintro e w5 ⟨rfl, hb5⟩
          go_wp2_with fail
          go_ret
          exact ⟨rfl, hb04.trans (hb5.mono hb04.size)⟩
end Go.Proofs.YtpohggljdgjdfaaDoor
