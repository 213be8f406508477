/- The walk of the document's Check. -/
import Derived.Test.YtaeakednekbekaaDoorRefTW
import Derived.Test.YtaeakednekbekaaDoorCheckW
set_option linter.unusedVariables false
set_option maxRecDepth 100000
namespace Go.Proofs.YtaeakednekbekaaDoor
open Go.RowKit CheckMath
open Go.Proofs.YtaeakednekbekaaDoor.Nm

set_option maxHeartbeats 4000000 in
theorem refCheck_any (v : Value) (D : DefD) (hz : SzD D) (w : World) (h : DefIn w v D) :
    Calls Tryd.prog 16 #[v] w fun e w' => e = .returned (.tuple #[.int .i64 (checkM D).1, .int .i64 (checkM D).2]) ∧ Below w.heap.size w w' := by
  have HDI : Hid (DefIn w v D) := h
  obtain ⟨sv, rfl, hd⟩ := h
  obtain ⟨ao, cap, rfl, hcap, _, hlen, _⟩ := hd
  have HW : Hid (∀ wq, Below (w.alloc (.cells #[.string D.name, .slice ao D.steps.length cap] 24)).heap.size (w.alloc (.cells #[.string D.name, .slice ao D.steps.length cap] 24)) wq → Below w.heap.size w wq ∧ wq.cell? ⟨w.heap.size, 0, none⟩ = some (.string D.name) ∧ wq.cell? ⟨w.heap.size, 1, none⟩ = some (.slice ao D.steps.length cap)) := fun wq hb => box_def wq hb
  have C1 : Hid (∀ wq, Calls Tryd.prog 20 #[.string D.name] wq fun e w1 => e = .returned (.bool (isN D.name)) ∧ w1 = wq) := fun wq => refIs_any _ hz.1 wq
  have C2 : Hid (∀ n, n < D.steps.length → ∀ wq, Below w.heap.size w wq → Calls Tryd.prog 21 #[.agg #[.string D.name, .slice ao D.steps.length cap], .int .i64 (n : Int)] wq fun e w' => e = .returned (.int .i64 (stepFault D.steps n)) ∧ Below wq.heap.size wq w') := fun n hn wq hq => refAlone_any _ D hz n hn wq (HDI.out.below hq)
  have C3 : Hid (D.steps.length ≤ 8 → Needy D.steps → ∀ wq, Below w.heap.size w wq → Calls Tryd.prog 22 #[.agg #[.string D.name, .slice ao D.steps.length cap]] wq fun e w' => e = .returned (.tuple #[.int .i64 (amongM D.steps).1, .int .i64 (amongM D.steps).2]) ∧ Below wq.heap.size wq w') := fun h8 hN wq hq => refTogether_any _ D h8 hN wq (HDI.out.below hq)
  have HM : Hid (checkM D = topM (isN D.name) D.steps) := rfl
  clear hz HDI
  generalize checkM D = cm at *
  generalize hm1 : cm.1 = m1
  generalize hm2 : cm.2 = m2
  have HM1 : Hid (cm.1 = m1) := hm1
  have HM2 : Hid (cm.2 = m2) := hm2
  clear hm1 hm2
  have HB0 := Below.refl (w.alloc (.cells #[.string D.name, .slice ao D.steps.length cap] 24)).heap.size (w.alloc (.cells #[.string D.name, .slice ao D.steps.length cap] 24))
  go_enter Tryd.func16, Tryd.ntmps16
  go_wp2_with fail
  generalize (w.alloc (.cells #[.string D.name, .slice ao D.steps.length cap] 24)) = w0 at *
  refine (C1.out _).mono ?_
  rintro e w1 ⟨rfl, hw1⟩
  rw [hw1]
  clear hw1 w1 C1
  have HB1 : Hid (Below w0.heap.size w0 w0) := HB0
  clear HB0
  obtain ⟨k1, p0, p1⟩ := HW.out _ HB1.out
  have HK1 : Hid (Below w.heap.size w w0) := k1
  clear k1 p0
  generalize isN D.name = b1 at *
  cases b1 with
  | false =>
    go_wp2_with fail
    go_ret2
    refine ⟨?_, HK1.out⟩
    rw [← HM1.out, ← HM2.out, HM.out, show topM false D.steps = (-1, 110) by unfold topM; rw [if_pos rfl]]
    rfl
  | true =>
    by_cases h0 : D.steps.length < 1
    · have h0' : (D.steps.length : Int) < 1 := by omega
      have HZ : Hid (D.steps.length = 0 ∨ 8 < D.steps.length) := Or.inl (by omega)
      have h0'' : decide ((D.steps.length : Int) < 1) = true := decide_eq_true h0'
      go_wp2_with fail
      go_ret2
      refine ⟨?_, HK1.out⟩
      rw [← HM1.out, ← HM2.out, HM.out, show topM true D.steps = (-1, 111) by unfold topM; rw [if_neg (by simp), if_pos HZ.out]]
      rfl
    have h0' : ¬ (D.steps.length : Int) < 1 := by omega
    by_cases h8 : 8 < D.steps.length
    · have h8' : (8 : Int) < (D.steps.length : Int) := by omega
      go_wp2_with fail
      go_ret2
      refine ⟨?_, HK1.out⟩
      rw [← HM1.out, ← HM2.out, HM.out, show topM true D.steps = (-1, 111) by unfold topM; rw [if_neg (by simp), if_pos (Or.inr h8)]]
      rfl
    have h8' : ¬ (8 : Int) < (D.steps.length : Int) := by omega
    have HMM : Hid (cm = stepsF D.steps 0 D.steps.length) := by show cm = _; rw [HM.out]; unfold topM; rw [if_neg (by simp), if_neg (by omega)]
    clear HM
    go_wp2_with fail
    clear p1
    go_loopw [5, 6] (fun k _ wr => ∃ n : Nat, n ≤ D.steps.length ∧ k = .int .i64 (n : Int) ∧ Hid (Below w0.heap.size w0 wr) ∧ Hid (∀ j, j < n → stepFault D.steps j = 0) ∧ Hid (cm = stepsF D.steps n (D.steps.length - n))) (fun k _ _ => D.steps.length - (intOf k).toNat)
    case atStart => exact ⟨0, Nat.zero_le _, rfl, HB1, fun j hj => absurd hj (Nat.not_lt_zero _), HMM⟩
    case round =>
      obtain ⟨n, hn, rfl, HB, HN, HF⟩ := hrel
      obtain ⟨k2, p0, p1⟩ := HW.out _ HB.out
      have HK2 : Hid (Below w.heap.size w wr) := k2
      clear k2
      by_cases hlt : n < D.steps.length
      · have C : Hid (Calls Tryd.prog 21 #[.agg #[.string D.name, .slice ao D.steps.length cap], .int .i64 (n : Int)] wr fun e w' => e = .returned (.int .i64 (stepFault D.steps n)) ∧ Below wr.heap.size wr w') := C2.out n hlt wr HK2.out
        have hltI : (n : Int) < (D.steps.length : Int) := by omega
        rw [show D.steps.length - n = (D.steps.length - (n + 1)) + 1 by omega] at HF
        by_cases hq : stepFault D.steps n = 0
        · rw [stepsF_go hq] at HF
          have HN2 : Hid (∀ j, j < n + 1 → stepFault D.steps j = 0) := fun j hj => by
            by_cases e : j = n
            · subst e; exact hq
            · exact HN.out j (by omega)
          rw [hq] at C
          clear hq HN
          go_wp2_with fail
          refine C.out.mono ?_
          rintro e w2 ⟨rfl, hb2⟩
          have HB2 : Hid (Below w0.heap.size w0 w2) := HB.out.trans (hb2.mono HB.out.size)
          clear C hb2 HB p0 p1
          go_wp2_with fail
          exact ⟨⟨n + 1, by omega, by go_num, HB2, HN2, HF⟩, by simp [intOf]; omega⟩
        · rw [stepsF_stop hq] at HF
          have hq' : (stepFault D.steps n != (0 : Int)) = true := by simpa using hq
          clear hq HN
          generalize stepFault D.steps n = sf at *
          go_wp2_with fail
          refine C.out.mono ?_
          rintro e w2 ⟨rfl, hb2⟩
          have HB2 : Hid (Below w.heap.size w w2) := HK2.out.trans (hb2.mono HK2.out.size)
          clear C hb2 HB p0 p1
          go_wp2_with fail
          go_ret2
          refine ⟨?_, HB2.out⟩
          rw [← HM1.out, ← HM2.out, HF.out]
          rfl
      · have hltI : ¬ (n : Int) < (D.steps.length : Int) := by omega
        have C : Hid (Calls Tryd.prog 22 #[.agg #[.string D.name, .slice ao D.steps.length cap]] wr fun e w' => e = .returned (.tuple #[.int .i64 (amongM D.steps).1, .int .i64 (amongM D.steps).2]) ∧ Below wr.heap.size wr w') := C3.out (by omega) (needy_of (fun j hj => HN.out j (by omega))) wr HK2.out
        rw [show D.steps.length - n = 0 by omega] at HF
        have HF2 : Hid (cm = amongM D.steps) := HF.out
        clear HN HF
        generalize amongM D.steps = am at *
        go_wp2_with fail
        refine C.out.mono ?_
        rintro e w2 ⟨rfl, hb2⟩
        have HB2 : Hid (Below w.heap.size w w2) := HK2.out.trans (hb2.mono HK2.out.size)
        clear C hb2 HB p0 p1
        go_wp2_with fail
        go_ret2
        refine ⟨?_, HB2.out⟩
        rw [← HM1.out, ← HM2.out, HF2.out]
        rfl
end Go.Proofs.YtaeakednekbekaaDoor
