/- The walks of the document's answer for package frame, whole: Size, Scan. -/
import Derived.Test.YtahkecdlibkokaaDoorFrRefScanW
set_option linter.unusedVariables false
set_option maxRecDepth 100000
namespace Go.Proofs.YtahkecdlibkokaaDoor.Fr
open Go.RowKit
open FrameMath (le le_length sz rec_ first scan used)

theorem refSize_any (s : ByteArray) (p : Nat) (hs : s.size ≤ 140737488351232) (hp : p ≤ s.size) (w : World) :
    Calls Tryd.prog 77 #[.string s, .int .i64 (p : Int)] w fun e w' => e = .returned (.int .i64 ((sizeV (s.data.toList.drop p) : Nat) : Int)) ∧ Below w.heap.size w w' := by
  have hl : (s.data.toList.drop p).length = s.size - p := by rw [List.length_drop, size_data]
  by_cases h8 : s.size - p < 8
  · rw [sizeV_none (FrameMath.first_none_short _ (by omega))]
    exact (refSize_short s p hs hp h8 w).mono fun e w' ⟨h1, h2⟩ => ⟨h1, h2 ▸ Below.refl _ _⟩
  · have hps : p < s.size := by omega
    have hm1 := mark_at s p hps
    by_cases hm : s[p].toNat = 167
    · have hm' : (s.data.toList.drop p).take 1 = [167] := by
        rw [hm1]
        congr 1
        exact UInt8.toNat.inj hm
      have hz := sz_at s p (by omega)
      have hP : Places s p (p + 1) (p + 2) (p + 3) (p + 4) (p + 8) := ⟨rfl, rfl, rfl, rfl, rfl, by omega⟩
      by_cases hb : 200000 < sz (s.data.toList.drop p) ∨ (sz (s.data.toList.drop p) ≤ 200000 ∧ s.size < p + sz (s.data.toList.drop p) + 8)
      · have hf : first (s.data.toList.drop p) = none := by
          unfold first
          rw [if_neg, ]; omega
        rw [sizeV_none hf]
        exact refSize_big s p _ _ _ _ _ hP hs hps (by omega) (by omega) (by omega) hm _ hz.symm hb w
      · have hv := mk_data (le 4 (CrcMath.ext 0 (((s.data.toList.drop p).drop 1).take 3 ++ ((s.data.toList.drop p).drop 8).take (sz (s.data.toList.drop p)))))
        have hc := refSize_sum s p _ _ _ _ _ _ hP hs hps (by omega) (by omega) (by omega) hm _ hz.symm rfl (by omega) (by omega) _ hv _ rfl w
        have hy : (s.extract (p + 4) (p + 8)).toList = ((s.data.toList.drop p).drop 4).take 4 := by rw [Lib.toList_data, extract_data, List.drop_drop, show p + 8 - (p + 4) = 4 by omega]
        rw [hy, Lib.toList_data, hv] at hc
        have hrl : (rec_ (s.data.toList.drop p)).length = sz (s.data.toList.drop p) := FrameMath.rec_length _ (by omega)
        by_cases he : ((s.data.toList.drop p).drop 4).take 4 = le 4 (CrcMath.ext 0 (((s.data.toList.drop p).drop 1).take 3 ++ rec_ (s.data.toList.drop p)))
        · have hf : first (s.data.toList.drop p) = some (rec_ (s.data.toList.drop p)) := by
            unfold first
            rw [if_pos]
            exact ⟨by omega, hm', by omega, by omega, he⟩
          rw [sizeV_some hf, hrl]
          have he' : (le 4 (CrcMath.ext 0 (((s.data.toList.drop p).drop 1).take 3 ++ ((s.data.toList.drop p).drop 8).take (sz (s.data.toList.drop p)))) == ((s.data.toList.drop p).drop 4).take 4) = true := beq_iff_eq.2 he.symm
          rw [he', if_pos rfl] at hc
          exact hc
        · have hf : first (s.data.toList.drop p) = none := by
            unfold first
            rw [if_neg]
            rintro ⟨_, _, _, _, h⟩
            exact he h
          rw [sizeV_none hf]
          have he' : (le 4 (CrcMath.ext 0 (((s.data.toList.drop p).drop 1).take 3 ++ ((s.data.toList.drop p).drop 8).take (sz (s.data.toList.drop p)))) == ((s.data.toList.drop p).drop 4).take 4) = false := beq_eq_false_iff_ne.2 (fun h => he h.symm)
          rw [he', if_neg (by decide)] at hc
          exact hc
    · have hf : first (s.data.toList.drop p) = none := by
        unfold first
        rw [if_neg]
        rintro ⟨_, h, _⟩
        rw [hm1] at h
        apply hm
        rw [(List.cons.inj h).1]
        rfl
      rw [sizeV_none hf]
      exact (refSize_mark s p hs (by omega) hm w).mono fun e w' ⟨h1, h2⟩ => ⟨h1, h2 ▸ Below.refl _ _⟩

theorem rec_cut (s : ByteArray) (p : Nat) (r : List UInt8) (hf : first (s.data.toList.drop p) = some r) : (s.extract (p + 8) (p + (r.length + 8))).data.toList = r := by
  have h := (FrameMath.first_some _ _ hf).2.2
  rw [extract_data, ← List.drop_drop, h, (FrameMath.parts r _).2.2.2, show p + (r.length + 8) - (p + 8) = r.length by omega]
  exact List.take_left' rfl

set_option maxHeartbeats 2000000 in
theorem refScan_any (s : ByteArray) (hs : s.size ≤ 70368744177664) (w : World) :
    Calls Tryd.prog 71 #[.string s] w fun e w' => ∃ v, e = .returned (.tuple #[v, .int .i64 ((used (scan s.data.toList) : Nat) : Int)]) ∧ w'.ownsRow w.heap.size 9 1 v (scan s.data.toList).length ((scan s.data.toList).map strV) ∧ Below w.heap.size w w' := by
  obtain ⟨i0, hi, hz0, hz1, hz2⟩ := info_parts infoS
  have X1 : Hid (∀ (p : Nat) (w : World), p ≤ s.size → Calls Tryd.prog 77 #[.string s, .int .i64 (p : Int)] w fun e w' => e = .returned (.int .i64 ((sizeV (s.data.toList.drop p) : Nat) : Int)) ∧ Below w.heap.size w w') := fun p w hp => refSize_any s p (by omega) hp w
  go_enter Tryd.func71, Tryd.ntmps71
  go_wp2_with fail
  go_loopw [4, 5] (fun v i wr => ∃ (p : Nat) (acc : List (List UInt8)), i = .int .i64 (p : Int) ∧ wr.ownsRow w.heap.size 9 1 v acc.length (acc.map strV) ∧ Below w.heap.size w wr ∧ p ≤ s.size ∧ 8 * acc.length ≤ p ∧ Hid (scan s.data.toList = acc ++ scan (s.data.toList.drop p)) ∧ Hid (used acc = p)) (fun _ i _ => s.size - (intOf i).toNat)
  case atStart => exact ⟨0, [], rfl, World.ownsRow_nil _ _ _ _, Below.refl _ _, Nat.zero_le _, Nat.le_refl _, rfl, rfl⟩
  case round =>
    obtain ⟨p, acc, rfl, hown, hbw, hp, hacc, HI, HU⟩ := hrel
    by_cases hlt : p < s.size
    · cases hf : first (s.data.toList.drop p) with
      | none =>
        have hx := X1.out p wr hp
        rw [sizeV_none hf] at hx
        have HX : Hid (Calls Tryd.prog 77 #[.string s, .int .i64 (p : Int)] wr fun e w' => e = .returned (.int .i64 0) ∧ Below wr.heap.size wr w') := hx
        have HE : Hid (scan s.data.toList = acc) := by
          show _ = _
          rw [HI.out, FrameMath.scan_none _ hf, List.append_nil]
        clear hf hx HI
        go_wp2_with fail
        refine HX.out.mono ?_
        rintro e w1 ⟨rfl, hb1⟩
        have hown1 := own_below hown hb1
        have HO : Hid (w1.ownsRow w.heap.size 9 1 _ acc.length (acc.map strV)) := hown1
        have HB1 : Hid (Below w.heap.size w w1) := hbw.trans (hb1.mono hbw.size)
        clear hown1 hown hb1 hbw HX
        go_wp2
        go_ret2
        exact ⟨_, by rw [HE.out, HU.out]; rfl, by rw [HE.out]; exact HO.out, HB1.out⟩
      | some r =>
        have hlen := FrameMath.first_len _ _ hf
        rw [List.length_drop, size_data] at hlen
        have hx := X1.out p wr hp
        rw [sizeV_some hf] at hx
        obtain ⟨m, hm⟩ : ∃ m, m = r.length + 8 := ⟨_, rfl⟩
        rw [← hm] at hx
        have HX : Hid (Calls Tryd.prog 77 #[.string s, .int .i64 (p : Int)] wr fun e w' => e = .returned (.int .i64 (m : Int)) ∧ Below wr.heap.size wr w') := hx
        have HE : Hid (scan s.data.toList = (acc ++ [r]) ++ scan (s.data.toList.drop (p + m))) := by
          show _ = _
          rw [HI.out, FrameMath.scan_some _ _ hf, List.drop_drop, List.append_assoc, hm]
          rfl
        have HU' : Hid (used (acc ++ [r]) = p + m) := by
          show _ = _
          rw [FrameMath.used_append, HU.out, hm]
          rfl
        have HR : Hid (Value.string (s.extract (p + 8) (p + m)) = strV r) := by
          show _ = _
          rw [← strV_data, hm, rec_cut s p r hf]
        have hm8 : 8 ≤ m := by omega
        have hms : p + m ≤ s.size := by omega
        have m0 : ¬ ((m : Int) = 0) := by omega
        have m0' : ((m : Int) == 0) = false := by simp; omega
        have mi : (p : Int) + (m : Int) ≤ (s.size : Int) := by omega
        have mj : (p : Int) + 8 ≤ (p : Int) + (m : Int) := by omega
        clear hf hx HI hm hlen
        go_wp2_with fail
        refine HX.out.mono ?_
        rintro e w1 ⟨rfl, hb1⟩
        have hown1 := own_below hown hb1
        have hb2 : Below w.heap.size w w1 := hbw.trans (hb1.mono hbw.size)
        clear hown hb1 hbw HX
        go_wp2_with (at_builtin; refine wpList_append_own _ rfl _ _ 47 rfl w.heap.size 9 i0 (.string ⟨#[]⟩) 1 16 Tryd.underlying47 hi hz0 hz1 hz2 rfl (by decide) _ _ _ rfl (hown1.alloc _) ⟨_, 0, none⟩ 1 1 [.string (s.extract (p + 8) (p + m))] rfl rfl (one_new _ _ _) (one_cell _) (by unfold maxLen; omega) (by omega) (by simp; have := hb2.size; omega) ?_)
        intro v' w2 hown' hgrow hnn
        have hb3 := below_append hb2 hown1 hgrow
        have hown3 : w2.ownsRow w.heap.size 9 1 v' (acc ++ [r]).length ((acc ++ [r]).map strV) := own_cast (by simp) (by rw [HR.out]; simp) hown'
        have HO3 : Hid (w2.ownsRow w.heap.size 9 1 v' (acc ++ [r]).length ((acc ++ [r]).map strV)) := hown3
        clear hown' hgrow hnn hown3 hown1
        go_wp2
        exact ⟨⟨p + m, acc ++ [r], by go_num, HO3.out, hb3, by omega, by simp; omega, HE, HU'⟩, by simp [intOf]; omega⟩
    · have hps : p = s.size := by omega
      have HE : Hid (scan s.data.toList = acc) := by
        show _ = _
        rw [HI.out, hps, List.drop_of_length_le (by rw [size_data]; omega), FrameMath.scan_nil, List.append_nil]
      clear HI hps
      go_wp2
      go_ret2
      exact ⟨_, by rw [HE.out, HU.out]; rfl, by rw [HE.out]; exact hown, hbw⟩
end Go.Proofs.YtahkecdlibkokaaDoor.Fr