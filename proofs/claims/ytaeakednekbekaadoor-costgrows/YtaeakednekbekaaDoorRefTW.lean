/- The walks of the document's together and Check. -/
import Derived.Test.YtaeakednekbekaaDoorRefCW
set_option linter.unusedVariables false
set_option maxRecDepth 100000
namespace Go.Proofs.YtaeakednekbekaaDoor
open Go.RowKit CheckMath
open Go.Proofs.YtaeakednekbekaaDoor.Nm

theorem cnt_pos {P : Nat → Prop} {m x : Nat} (hx : x < m) (h : P x) : 1 ≤ cnt P m := by
  have := cnt_lt (P := fun _ => False) (Q := P) m (fun _ _ h => h.elim) x hx h (fun h => h)
  omega
theorem pivots_pos {ss : List StepD} {m : Nat} (h : ∃ x, x < m ∧ (nth ss x).kind = 2) : 1 ≤ pivots ss m := by
  obtain ⟨x, hx, e⟩ := h
  exact cnt_pos (P := fun j => (nth ss j).kind = 2) hx e
theorem pivots_zero {ss : List StepD} {m : Nat} (h : pivots ss m = 1) : ∃ x, x < m ∧ (nth ss x).kind = 2 := by
  rcases Classical.em (∃ x, x < m ∧ (nth ss x).kind = 2) with e | e
  · exact e
  · have : pivots ss m = 0 := cnt_zero m (fun x hx e2 => e ⟨x, hx, e2⟩)
    omega
theorem pivots_upto {ss : List StepD} : ∀ m, m ≤ ss.length → (∀ i, i < m → ¬ PivotAgain ss i) → pivots ss m ≤ 1
  | 0, _, _ => Nat.zero_le _
  | m + 1, hm, h => by
    have ih := pivots_upto m (by omega) (fun i hi => h i (by omega))
    by_cases hk : (nth ss m).kind = 2
    · have hz : pivots ss m = 0 := cnt_zero m (fun x hx e => h m (by omega) ⟨hk, x, hx, e⟩)
      rw [pivots_yes hk, hz]; exact Nat.le_refl _
    · rw [pivots_no hk]; exact ih
/-- What together answers, by the four first numbers. -/
def fourM (r1 r2 r3 r4 : Int) : Int × Int := if ¬ r1 = -1 then (r1, 117) else if ¬ r2 = -1 then (r2, 118) else if ¬ r3 = -1 then (r3, 119) else if ¬ r4 = -1 then (r4, 115) else (-1, 0)
theorem firstF_stop {P : Nat → Prop} {k n : Nat} (h : P k) : firstF P k (n + 1) = (k : Int) := by rw [firstF, if_pos (tt_yes h)]
theorem firstF_go {P : Nat → Prop} {k n : Nat} (h : ¬ P k) : firstF P k (n + 1) = firstF P (k + 1) n := by rw [firstF, if_neg (by rw [tt_no h]; simp)]

set_option maxHeartbeats 10000000 in
theorem refTogether_any (v : Value) (D : DefD) (h8 : D.steps.length ≤ 8) (hN : Needy D.steps) (w : World) (h : DefIn w v D) :
    Calls Tryd.prog 22 #[v] w fun e w' => e = .returned (.tuple #[.int .i64 (amongM D.steps).1, .int .i64 (amongM D.steps).2]) ∧ Below w.heap.size w w' := by
  have C2 : Hid (∀ i, i < D.steps.length → ∀ wq, Below w.heap.size w wq → Calls Tryd.prog 33 #[v, .int .i64 (i : Int)] wq fun e w' => e = .returned (.bool (tt (OutOfOrder D.steps i))) ∧ Below wq.heap.size wq w') := fun i hi wq hq => refOrder_any v D hN i hi wq (h.below hq)
  have C3 : Hid (∀ i, i < D.steps.length → ∀ wq, Below w.heap.size w wq → Calls Tryd.prog 34 #[v, .int .i64 (i : Int)] wq fun e w' => e = .returned (.bool (tt (Ring D.steps i))) ∧ Below wq.heap.size wq w') := fun i hi wq hq => refRing_any v D h8 hN i hi wq (h.below hq)
  have C4 : Hid (∀ i, i < D.steps.length → ∀ wq, Below w.heap.size w wq → Calls Tryd.prog 35 #[v, .int .i64 (i : Int)] wq fun e w' => e = .returned (.bool (tt (KeyUntaken D.steps i))) ∧ Below wq.heap.size wq w') := fun i hi wq hq => refLoose_any v D i hi wq (h.below hq)
  obtain ⟨sv, rfl, hd⟩ := h
  obtain ⟨ao, cap, rfl, hcap, hn0, hlen, hrow⟩ := hd
  have HR : Hid (∀ j, j < D.steps.length → ∃ g o, ao = some ⟨g, o, none⟩ ∧ g < w.heap.size ∧ StepIn w g (o + j * 5) (nth D.steps j)) := hrow
  have HW : Hid (∀ wq, Below (w.alloc (.cells #[.string D.name, .slice ao D.steps.length cap] 24)).heap.size (w.alloc (.cells #[.string D.name, .slice ao D.steps.length cap] 24)) wq → Below w.heap.size w wq ∧ wq.cell? ⟨w.heap.size, 0, none⟩ = some (.string D.name) ∧ wq.cell? ⟨w.heap.size, 1, none⟩ = some (.slice ao D.steps.length cap)) := fun wq hb => box_def wq hb
  have HB0 : Hid (Below (w.alloc (.cells #[.string D.name, .slice ao D.steps.length cap] 24)).heap.size (w.alloc (.cells #[.string D.name, .slice ao D.steps.length cap] 24)) (w.alloc (.cells #[.string D.name, .slice ao D.steps.length cap] 24))) := Below.refl _ _
  have HM : Hid (amongM D.steps = fourM (firstI (PivotAgain D.steps) D.steps.length) (firstI (OutOfOrder D.steps) D.steps.length) (firstI (Ring D.steps) D.steps.length) (firstI (KeyUntaken D.steps) D.steps.length)) := rfl
  have HP0 : Hid (firstI (PivotAgain D.steps) D.steps.length = firstF (PivotAgain D.steps) 0 (D.steps.length - 0)) := rfl
  have HO0 : Hid (firstI (OutOfOrder D.steps) D.steps.length = firstF (OutOfOrder D.steps) 0 (D.steps.length - 0)) := rfl
  have HG0 : Hid (firstI (Ring D.steps) D.steps.length = firstF (Ring D.steps) 0 (D.steps.length - 0)) := rfl
  have HK0 : Hid (firstI (KeyUntaken D.steps) D.steps.length = firstF (KeyUntaken D.steps) 0 (D.steps.length - 0)) := rfl
  clear hrow hn0 hN
  generalize amongM D.steps = am at *
  generalize firstI (PivotAgain D.steps) D.steps.length = r1 at *
  generalize firstI (OutOfOrder D.steps) D.steps.length = r2 at *
  generalize firstI (Ring D.steps) D.steps.length = r3 at *
  generalize firstI (KeyUntaken D.steps) D.steps.length = r4 at *
  generalize hm1 : am.1 = m1
  generalize hm2 : am.2 = m2
  have HM1 : Hid (am.1 = m1) := hm1
  have HM2 : Hid (am.2 = m2) := hm2
  clear hm1 hm2
  go_enter Tryd.func22, Tryd.ntmps22
  go_wp2
  generalize (w.alloc (.cells #[.string D.name, .slice ao D.steps.length cap] 24)) = w0 at *
  go_loopw [4, 5] (fun pv k wq => ∃ n : Nat, n ≤ D.steps.length ∧ k = .int .i64 (n : Int) ∧ pv = .int .i64 (pivots D.steps n : Int) ∧ Hid (Below w0.heap.size w0 wq) ∧ Hid (∀ i, i < n → ¬ PivotAgain D.steps i) ∧ Hid (r1 = firstF (PivotAgain D.steps) n (D.steps.length - n))) (fun _ k _ => D.steps.length - (intOf k).toNat)
  case atStart => exact ⟨0, Nat.zero_le _, rfl, rfl, HB0, fun i hi => absurd hi (Nat.not_lt_zero _), HP0⟩
  case round =>
    obtain ⟨n, hn, rfl, rfl, HB, HN, HF⟩ := hrel
    obtain ⟨hbw, p0, p1⟩ := HW.out _ HB.out
    clear HB0 HP0
    by_cases hlt : n < D.steps.length
    · obtain ⟨g, o, rfl, hg, hs⟩ := HR.out n hlt
      obtain ⟨_, c1, _⟩ := hs.below hg hbw
      have hltI : (n : Int) < (D.steps.length : Int) := by omega
      have hp1 := pivots_upto n hn HN.out
      rw [show D.steps.length - n = (D.steps.length - (n + 1)) + 1 by omega] at HF
      by_cases hk : (nth D.steps n).kind = 2
      · have hk' : ((nth D.steps n).kind == (2 : Int)) = true := by simpa using hk
        by_cases hp : pivots D.steps n = 1
        · have hpa : PivotAgain D.steps n := ⟨hk, pivots_zero hp⟩
          rw [firstF_stop hpa] at HF
          have HA : Hid (am = ((n : Int), 117)) := by show am = _; rw [HM.out, HF.out]; unfold fourM; rw [if_pos (by omega)]
          rw [hp]
          have hbw' : Hid (Below w.heap.size w wr) := hbw
          clear hk hp hpa HN HF HM C2 C3 C4 hbw HO0 HG0 HK0
          go_wp2
          go_ret2
          refine ⟨?_, hbw'.out⟩
          rw [← HM1.out, ← HM2.out, HA.out]
          rfl
        · have hp0 : pivots D.steps n = 0 := by omega
          have hnp : ¬ PivotAgain D.steps n := fun ⟨_, h⟩ => by have := pivots_pos h; omega
          rw [firstF_go hnp] at HF
          have HN2 : Hid (∀ i, i < n + 1 → ¬ PivotAgain D.steps i) := fun i hi => by
            by_cases e : i = n
            · subst e; exact hnp
            · exact HN.out i (by omega)
          have HPV : Hid (pivots D.steps (n + 1) = 1) := by show _ = _; rw [pivots_yes hk, hp0]
          rw [hp0]
          clear hk hp hp0 hnp HN HM C2 C3 C4 hbw HO0 HG0 HK0 hp1
          go_wp2
          exact ⟨⟨n + 1, by omega, by go_num, by rw [HPV.out]; rfl, HB, HN2, HF⟩, by simp [intOf]; omega⟩
      · have hk' : ((nth D.steps n).kind == (2 : Int)) = false := by simpa using hk
        have hnp : ¬ PivotAgain D.steps n := fun h => hk h.1
        rw [firstF_go hnp] at HF
        have HN2 : Hid (∀ i, i < n + 1 → ¬ PivotAgain D.steps i) := fun i hi => by
          by_cases e : i = n
          · subst e; exact hnp
          · exact HN.out i (by omega)
        have HPV : Hid (pivots D.steps (n + 1) = pivots D.steps n) := pivots_no hk
        have hp2 : ((pivots D.steps n : Int) == 2) = false := beq_eq_false_iff_ne.2 (by omega)
        clear hk hnp HN HM C2 C3 C4 hbw HO0 HG0 HK0 hp1
        go_wp2
        exact ⟨⟨n + 1, by omega, by go_num, by rw [HPV.out], HB, HN2, HF⟩, by simp [intOf]; omega⟩
    · have hltI : ¬ (n : Int) < (D.steps.length : Int) := by omega
      have HR1 : Hid (r1 = -1) := by show r1 = -1; rw [HF.out, show D.steps.length - n = 0 by omega]; rfl
      clear HF HN HR
      go_wp2_with fail
      clear p0 p1 hbw
      go_loopw [6, 7] (fun k _ wq => ∃ n : Nat, n ≤ D.steps.length ∧ k = .int .i64 (n : Int) ∧ Hid (Below w0.heap.size w0 wq) ∧ Hid (r2 = firstF (OutOfOrder D.steps) n (D.steps.length - n))) (fun k _ _ => D.steps.length - (intOf k).toNat)
      case atStart => exact ⟨0, Nat.zero_le _, rfl, HB, HO0⟩
      case round =>
        obtain ⟨n2, hn2, rfl, HB2, HF⟩ := hrel
        obtain ⟨hbw, p0, p1⟩ := HW.out _ HB2.out
        have HBW : Hid (Below w.heap.size w wr) := hbw
        by_cases hlt : n2 < D.steps.length
        · have hltI : (n2 : Int) < (D.steps.length : Int) := by omega
          have C : Hid (Calls Tryd.prog 33 #[.agg #[.string D.name, .slice ao D.steps.length cap], .int .i64 (n2 : Int)] wr fun e w' => e = .returned (.bool (tt (OutOfOrder D.steps n2))) ∧ Below wr.heap.size wr w') := C2.out n2 hlt wr hbw
          rw [show D.steps.length - n2 = (D.steps.length - (n2 + 1)) + 1 by omega] at HF
          by_cases hq : OutOfOrder D.steps n2
          · rw [tt_yes hq] at C
            rw [firstF_stop hq] at HF
            have HA : Hid (am = ((n2 : Int), 118)) := by show am = _; rw [HM.out, HR1.out, HF.out]; unfold fourM; rw [if_neg (by simp), if_pos (by omega)]
            clear hq HF hbw
            go_wp2_with fail
            refine C.out.mono ?_
            rintro e w1 ⟨rfl, hb1⟩
            have HE : Hid (Below w.heap.size w w1) := HBW.out.trans (hb1.mono HBW.out.size)
            clear C hb1 p0 p1
            go_wp2_with fail
            go_ret2
            refine ⟨?_, HE.out⟩
            rw [← HM1.out, ← HM2.out, HA.out]
            rfl
          · rw [tt_no hq] at C
            rw [firstF_go hq] at HF
            clear hq hbw
            go_wp2_with fail
            refine C.out.mono ?_
            rintro e w1 ⟨rfl, hb1⟩
            have HB3 : Hid (Below w0.heap.size w0 w1) := HB2.out.trans (hb1.mono HB2.out.size)
            clear C hb1 p0 p1
            go_wp2_with fail
            exact ⟨⟨n2 + 1, by omega, by go_num, HB3, HF⟩, by simp [intOf]; omega⟩
        · have hltI : ¬ (n2 : Int) < (D.steps.length : Int) := by omega
          have HR2 : Hid (r2 = -1) := by show r2 = -1; rw [HF.out, show D.steps.length - n2 = 0 by omega]; rfl
          clear HF hbw HBW
          go_wp2_with fail
          clear p0 p1
          go_loopw [8, 9] (fun k _ wq => ∃ n : Nat, n ≤ D.steps.length ∧ k = .int .i64 (n : Int) ∧ Hid (Below w0.heap.size w0 wq) ∧ Hid (r3 = firstF (Ring D.steps) n (D.steps.length - n))) (fun k _ _ => D.steps.length - (intOf k).toNat)
          case atStart => exact ⟨0, Nat.zero_le _, rfl, HB2, HG0⟩
          case round =>
            obtain ⟨n3, hn3, rfl, HB3, HF⟩ := hrel
            obtain ⟨hbw, p0, p1⟩ := HW.out _ HB3.out
            have HBW : Hid (Below w.heap.size w wr) := hbw
            by_cases hlt : n3 < D.steps.length
            · have hltI : (n3 : Int) < (D.steps.length : Int) := by omega
              have C : Hid (Calls Tryd.prog 34 #[.agg #[.string D.name, .slice ao D.steps.length cap], .int .i64 (n3 : Int)] wr fun e w' => e = .returned (.bool (tt (Ring D.steps n3))) ∧ Below wr.heap.size wr w') := C3.out n3 hlt wr hbw
              rw [show D.steps.length - n3 = (D.steps.length - (n3 + 1)) + 1 by omega] at HF
              by_cases hq : Ring D.steps n3
              · rw [tt_yes hq] at C
                rw [firstF_stop hq] at HF
                have HA : Hid (am = ((n3 : Int), 119)) := by show am = _; rw [HM.out, HR1.out, HR2.out, HF.out]; unfold fourM; rw [if_neg (by simp), if_neg (by simp), if_pos (by omega)]
                clear hq HF hbw
                go_wp2_with fail
                refine C.out.mono ?_
                rintro e w1 ⟨rfl, hb1⟩
                have HE : Hid (Below w.heap.size w w1) := HBW.out.trans (hb1.mono HBW.out.size)
                clear C hb1 p0 p1
                go_wp2_with fail
                go_ret2
                refine ⟨?_, HE.out⟩
                rw [← HM1.out, ← HM2.out, HA.out]
                rfl
              · rw [tt_no hq] at C
                rw [firstF_go hq] at HF
                clear hq hbw
                go_wp2_with fail
                refine C.out.mono ?_
                rintro e w1 ⟨rfl, hb1⟩
                have HB4 : Hid (Below w0.heap.size w0 w1) := HB3.out.trans (hb1.mono HB3.out.size)
                clear C hb1 p0 p1
                go_wp2_with fail
                exact ⟨⟨n3 + 1, by omega, by go_num, HB4, HF⟩, by simp [intOf]; omega⟩
            · have hltI : ¬ (n3 : Int) < (D.steps.length : Int) := by omega
              have HR3 : Hid (r3 = -1) := by show r3 = -1; rw [HF.out, show D.steps.length - n3 = 0 by omega]; rfl
              clear HF hbw HBW
              go_wp2_with fail
              clear p0 p1
              go_loopw [10, 11] (fun k _ wq => ∃ n : Nat, n ≤ D.steps.length ∧ k = .int .i64 (n : Int) ∧ Hid (Below w0.heap.size w0 wq) ∧ Hid (r4 = firstF (KeyUntaken D.steps) n (D.steps.length - n))) (fun k _ _ => D.steps.length - (intOf k).toNat)
              case atStart => exact ⟨0, Nat.zero_le _, rfl, HB3, HK0⟩
              case round =>
                obtain ⟨n4, hn4, rfl, HB4, HF⟩ := hrel
                obtain ⟨hbw, p0, p1⟩ := HW.out _ HB4.out
                have HBW : Hid (Below w.heap.size w wr) := hbw
                by_cases hlt : n4 < D.steps.length
                · have hltI : (n4 : Int) < (D.steps.length : Int) := by omega
                  have C : Hid (Calls Tryd.prog 35 #[.agg #[.string D.name, .slice ao D.steps.length cap], .int .i64 (n4 : Int)] wr fun e w' => e = .returned (.bool (tt (KeyUntaken D.steps n4))) ∧ Below wr.heap.size wr w') := C4.out n4 hlt wr hbw
                  rw [show D.steps.length - n4 = (D.steps.length - (n4 + 1)) + 1 by omega] at HF
                  by_cases hq : KeyUntaken D.steps n4
                  · rw [tt_yes hq] at C
                    rw [firstF_stop hq] at HF
                    have HA : Hid (am = ((n4 : Int), 115)) := by show am = _; rw [HM.out, HR1.out, HR2.out, HR3.out, HF.out]; unfold fourM; rw [if_neg (by simp), if_neg (by simp), if_neg (by simp), if_pos (by omega)]
                    clear hq HF hbw
                    go_wp2_with fail
                    refine C.out.mono ?_
                    rintro e w1 ⟨rfl, hb1⟩
                    have HE : Hid (Below w.heap.size w w1) := HBW.out.trans (hb1.mono HBW.out.size)
                    clear C hb1 p0 p1
                    go_wp2_with fail
                    go_ret2
                    refine ⟨?_, HE.out⟩
                    rw [← HM1.out, ← HM2.out, HA.out]
                    rfl
                  · rw [tt_no hq] at C
                    rw [firstF_go hq] at HF
                    clear hq hbw
                    go_wp2_with fail
                    refine C.out.mono ?_
                    rintro e w1 ⟨rfl, hb1⟩
                    have HB5 : Hid (Below w0.heap.size w0 w1) := HB4.out.trans (hb1.mono HB4.out.size)
                    clear C hb1 p0 p1
                    go_wp2_with fail
                    exact ⟨⟨n4 + 1, by omega, by go_num, HB5, HF⟩, by simp [intOf]; omega⟩
                · have hltI : ¬ (n4 : Int) < (D.steps.length : Int) := by omega
                  have HR4 : r4 = -1 := by rw [HF.out, show D.steps.length - n4 = 0 by omega]; rfl
                  have HA : Hid (am = (-1, 0)) := by show am = _; rw [HM.out, HR1.out, HR2.out, HR3.out, HR4]; rfl
                  clear HF HR4
                  go_wp2_with fail
                  go_ret2
                  refine ⟨?_, hbw⟩
                  rw [← HM1.out, ← HM2.out, HA.out]
                  rfl
end Go.Proofs.YtaeakednekbekaaDoor
