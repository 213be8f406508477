/- The walk of CostGrows where no step more may be. -/
import Derived.Test.YtaeakednekbekaaDoorGrowM
set_option linter.unusedVariables false
set_option maxRecDepth 100000
namespace Go.Proofs.YtaeakednekbekaaDoor
open Go.RowKit CheckMath
open Go.Proofs.YtaeakednekbekaaDoor.Nm

theorem errM_zero (D : DefD) : (errM D == 0) = ((checkM D).2 == 0) := by
  unfold errM
  by_cases h : (checkM D).2 = 0
  · rw [if_pos h]; simp [h]
  · rw [if_neg h]; simp [h]

set_option maxHeartbeats 4000000 in
theorem grow_a (v : Value) (D : DefD) (part : Int) (w : World) (h : DefIn w v D) (hz : SzD D) (hT : Tabs w) (hc : (checkM D).2 ≠ 0 ∨ D.steps.length = 8) :
    Calls Tryd.prog 5 #[v, .int .i64 part] w fun e w' => e = .returned (.bool true) ∧ Below w.heap.size w w' := by
  have HT : Hid (Tabs w) := hT
  have HDI : Hid (DefIn w v D) := h
  have HSZ : Hid (SzD D) := hz
  obtain ⟨sv, rfl, hd⟩ := h
  obtain ⟨ao, cap, rfl, hcap, _, hlen, _⟩ := hd
  have HW : Hid (∀ wq, Below (w.alloc (.cells #[.string D.name, .slice ao D.steps.length cap] 24)).heap.size (w.alloc (.cells #[.string D.name, .slice ao D.steps.length cap] 24)) wq → Below w.heap.size w wq ∧ wq.cell? ⟨w.heap.size, 0, none⟩ = some (.string D.name) ∧ wq.cell? ⟨w.heap.size, 1, none⟩ = some (.slice ao D.steps.length cap)) := fun wq hb => box_def wq hb
  have CL : Hid (∀ wq, Below w.heap.size w wq → Calls Tryd.prog 13 #[] wq fun e w' => e = .returned (.bool true) ∧ Below w.heap.size w w') := fun wq hq => (live_any wq (Utf8Tabs_below HT.out hq)).mono (fun e w' ⟨he, hb⟩ => ⟨he, hq.trans (hb.mono hq.size)⟩)
  have CR : Hid (∀ wq, Below w.heap.size w wq → Calls Tryd.prog 16 #[.agg #[.string D.name, .slice ao D.steps.length cap]] wq fun e w' => e = .returned (.tuple #[.int .i64 (checkM D).1, .int .i64 (checkM D).2]) ∧ Below wq.heap.size wq w') := fun wq hq => refCheck_any _ D HSZ.out wq (HDI.out.below hq)
  have CO : Hid (∀ wq, Below w.heap.size w wq → Calls Tryd.prog 7 #[.agg #[.string D.name, .slice ao D.steps.length cap]] wq fun e w' => e = .returned (.tuple #[.agg #[.int .i64 (costM D 0 : Nat), .int .i64 (costM D 1 : Nat), .int .i64 (costM D 2 : Nat), .int .i64 (costM D 3 : Nat), .int .i64 (costM D 4 : Nat)], .int .i64 (errM D)]) ∧ Below wq.heap.size wq w') := fun wq hq => of_any _ D wq (HDI.out.below hq) (Utf8Tabs_below HT.out hq)
  have he : (errM D == 0) = ((checkM D).2 == 0) := errM_zero D
  have HB0 := Below.refl (w.alloc (.cells #[.string D.name, .slice ao D.steps.length cap] 24)).heap.size (w.alloc (.cells #[.string D.name, .slice ao D.steps.length cap] 24))
  generalize hn : D.steps.length = n at *
  clear hT hz HDI HSZ hn
  generalize (checkM D).1 = m1 at *
  generalize (checkM D).2 = m2 at *
  generalize costM D = c at *
  generalize errM D = er at *
  have HE : Hid ((er == 0) = (m2 == 0)) := he
  clear he
  go_enter Tryd.func5, Tryd.ntmps5
  go_wp2_with fail
  generalize (w.alloc (.cells #[.string D.name, .slice ao n cap] 24)) = w0 at *
  refine (CR.out _ (HW.out _ HB0).1).mono ?_
  rintro e w1 ⟨rfl, hb1⟩
  have HB1 : Hid (Below w0.heap.size w0 w1) := hb1
  clear hb1 HB0
  obtain ⟨k1, p0, p1⟩ := HW.out _ HB1.out
  have HC : Hid (Calls Tryd.prog 7 #[.agg #[.string D.name, .slice ao n cap]] w1 fun e w' => e = .returned (.tuple #[.agg #[.int .i64 (c 0 : Nat), .int .i64 (c 1 : Nat), .int .i64 (c 2 : Nat), .int .i64 (c 3 : Nat), .int .i64 (c 4 : Nat)], .int .i64 er]) ∧ Below w1.heap.size w1 w') := CO.out _ k1
  clear k1
  go_wp2_with fail
  refine HC.out.mono ?_
  rintro e w2 ⟨rfl, hb2⟩
  have HB2 : Hid (Below w0.heap.size w0 w2) := HB1.out.trans (hb2.mono HB1.out.size)
  have HB3 : Hid (Below w0.heap.size w0 (w2.alloc (.cells #[.int .i64 (c 0 : Nat), .int .i64 (c 1 : Nat), .int .i64 (c 2 : Nat), .int .i64 (c 3 : Nat), .int .i64 (c 4 : Nat)] 28))) := HB2.out.alloc HB2.out.size _
  clear hb2 p0 p1 HC
  obtain ⟨_, p0, p1⟩ := HW.out _ HB2.out
  have hz1 : w.heap.size < w2.heap.size := block_lt_of_cell p0
  have hz2 : ¬ w.heap.size = w2.heap.size := by omega
  by_cases hm : m2 = 0
  · have hn8 : n = 8 := by
      rcases hc with e | e
      · exact absurd hm e
      · exact e
    have he1 : (er == 0) = true := by rw [HE.out]; simpa using hm
    clear hc HE
    subst hm
    subst hn8
    go_wp2_with fail
    refine (CL.out _ (HW.out _ HB3.out).1).mono ?_
    rintro e w4 ⟨rfl, hb4⟩
    go_wp2_with fail
    go_ret
    exact ⟨rfl, hb4⟩
  · have hm1 : (m2 == 0) = false := by simpa using hm
    have he1 : (er == 0) = false := by rw [HE.out]; exact hm1
    clear hc hm
    go_wp2_with fail
    refine (CL.out _ (HW.out _ HB3.out).1).mono ?_
    rintro e w4 ⟨rfl, hb4⟩
    go_wp2_with fail
    go_ret
    exact ⟨rfl, hb4⟩
end Go.Proofs.YtaeakednekbekaaDoor
