/- The walk of CheckTells. -/
import Derived.Test.YtbifnpemfkmckaaDoorRefXW
import Derived.Test.YtbifnpemfkmckaaDoorSameW
import Derived.Test.YtbifnpemfkmckaaDoorCopyW
import Derived.Test.YtbifnpemfkmckaaDoorLiveW
set_option linter.unusedVariables false
set_option maxRecDepth 100000
namespace Go.Proofs.YtbifnpemfkmckaaDoor
open Go.RowKit CheckMath
open Go.Proofs.YtbifnpemfkmckaaDoor.Nm

set_option maxHeartbeats 8000000 in
theorem checkTells_walk (v : Value) (D : DefD) (w : World) (h : DefIn w v D) (h80 : D.steps.length * 80 ≤ 140737488355328) (hok : ∀ s, s ∈ D.steps → StOk s) (hz : SzD D) (hT : Tabs w) :
    Calls Tryd.prog 3 #[v] w fun e w' => e = .returned (.bool true) ∧ Below w.heap.size w w' := by
  have HT : Hid (Tabs w) := hT
  have HDI : Hid (DefIn w v D) := h
  have HSO : Hid (∀ s, s ∈ D.steps → StOk s) := hok
  have HSZ : Hid (SzD D) := hz
  obtain ⟨sv, rfl, hd⟩ := h
  obtain ⟨ao, cap, rfl, hcap, _, hlen, _⟩ := hd
  have HW : Hid (∀ wq, Below (w.alloc (.cells #[.string D.name, .slice ao D.steps.length cap] 24)).heap.size (w.alloc (.cells #[.string D.name, .slice ao D.steps.length cap] 24)) wq → Below w.heap.size w wq ∧ wq.cell? ⟨w.heap.size, 0, none⟩ = some (.string D.name) ∧ wq.cell? ⟨w.heap.size, 1, none⟩ = some (.slice ao D.steps.length cap)) := fun wq hb => box_def wq hb
  have CL : Hid (∀ wq, Below w.heap.size w wq → Calls Tryd.prog 10 #[] wq fun e w' => e = .returned (.bool true) ∧ Below w.heap.size w w') := fun wq hq => (live_any wq (Utf8Tabs_below HT.out hq)).mono (fun e w' ⟨he, hb⟩ => ⟨he, hq.trans (hb.mono hq.size)⟩)
  have CC : Hid (∀ wq, Below w.heap.size w wq → Calls Tryd.prog 6 #[.agg #[.string D.name, .slice ao D.steps.length cap]] wq fun e w' => ∃ sv xs, e = .returned (.agg #[.string D.name, sv]) ∧ xs.map (·.st) = D.steps ∧ Has wq.heap.size wq (rowsRes sv xs) w') := fun wq hq => copied_any _ D wq (HDI.out.below hq) h80 HSO.out
  have CR : Hid (∀ wq, Below w.heap.size w wq → Calls Tryd.prog 8 #[.agg #[.string D.name, .slice ao D.steps.length cap]] wq fun e w' => e = .returned (.tuple #[.int .i64 (checkM D).1, .int .i64 (checkM D).2]) ∧ Below wq.heap.size wq w') := fun wq hq => refCheck_any _ D HSZ.out wq (HDI.out.below hq)
  have HB0 := Below.refl (w.alloc (.cells #[.string D.name, .slice ao D.steps.length cap] 24)).heap.size (w.alloc (.cells #[.string D.name, .slice ao D.steps.length cap] 24))
  have HX : Hid (∀ (sv : Value) (wq : World), Below w.heap.size w wq → DefIn wq (.agg #[.string D.name, sv]) D → Calls Tryd.prog 7 #[.agg #[.string D.name, sv]] wq fun e w' => e = .returned (.tuple #[.int .i64 (checkM D).1, .int .i64 (checkM D).2]) ∧ Below wq.heap.size wq w') := fun sv wq hq hd => check_any _ D wq hd (Utf8Tabs_below HT.out hq)
  have HY : Hid (∀ (sv : Value) (wq : World), Below w.heap.size w wq → DefIn wq (.agg #[.string D.name, sv]) D → Calls Tryd.prog 9 #[.agg #[.string D.name, sv], .agg #[.string D.name, .slice ao D.steps.length cap]] wq fun e w' => e = .returned (.bool true) ∧ Below wq.heap.size wq w') := fun sv wq hq hd => sameDef_any _ _ D wq hd (HDI.out.below hq)
  clear hT hok hz
  generalize (checkM D).1 = m1 at *
  generalize (checkM D).2 = m2 at *
  go_enter Tryd.func3, Tryd.ntmps3
  go_wp2_with fail
  generalize (w.alloc (.cells #[.string D.name, .slice ao D.steps.length cap] 24)) = w0 at *
  have HK0 : Hid (Below w.heap.size w w0) := (HW.out _ HB0).1
  have HLB : Hid (w.heap.size < w0.heap.size) := block_lt_of_cell (HW.out _ HB0).2.1
  clear HB0
  refine (CC.out _ HK0.out).mono ?_
  rintro e w2 ⟨sv, xs, rfl, hmap, hhas⟩
  have hxl : xs.length = D.steps.length := by rw [← hmap, List.length_map]
  have hdr : DRow w2 sv D.steps := by
    have := drow_own hhas (fun r hr => hr) (by omega) (fun x hx => HSO.out _ (by rw [← hmap]; exact List.mem_map.2 ⟨x, hx, rfl⟩))
    rwa [hmap] at this
  have HDR : Hid (DRow w2 sv D.steps) := hdr
  obtain ⟨oo, oc, rfl, _⟩ := hdr.slice
  have HB2 : Hid (Below w0.heap.size w0 w2) := hhas.bel
  clear hhas hmap hxl CC HSO hdr
  have hbx : Below w2.heap.size w2 (w2.alloc (.cells #[.string D.name, .slice oo D.steps.length oc] 24)) := (Below.refl _ _).alloc (Nat.le_refl _) _
  have HOW : Hid (∀ wq, Below (w2.alloc (.cells #[.string D.name, .slice oo D.steps.length oc] 24)).heap.size (w2.alloc (.cells #[.string D.name, .slice oo D.steps.length oc] 24)) wq → Below w.heap.size w wq ∧ (wq.cell? ⟨w.heap.size, 0, none⟩ = some (.string D.name) ∧ wq.cell? ⟨w.heap.size, 1, none⟩ = some (.slice ao D.steps.length cap)) ∧ (wq.cell? ⟨w2.heap.size, 0, none⟩ = some (.string D.name) ∧ wq.cell? ⟨w2.heap.size, 1, none⟩ = some (.slice oo D.steps.length oc)) ∧ DefIn wq (.agg #[.string D.name, .slice oo D.steps.length oc]) D) := fun wq hb => by
    obtain ⟨k1, k2, k3⟩ := box_def wq hb
    have hb4 : Below w0.heap.size w0 wq := HB2.out.trans (k1.mono HB2.out.size)
    obtain ⟨l1, l2, l3⟩ := HW.out _ hb4
    exact ⟨l1, ⟨l2, l3⟩, ⟨k2, k3⟩, _, rfl, HDR.out.below k1⟩
  have HBB := Below.refl (w2.alloc (.cells #[.string D.name, .slice oo D.steps.length oc] 24)).heap.size (w2.alloc (.cells #[.string D.name, .slice oo D.steps.length oc] 24))
  clear hbx
  go_wp2_with fail
  generalize (w2.alloc (.cells #[.string D.name, .slice oo D.steps.length oc] 24)) = w3 at *
  obtain ⟨k1, _, _, k4⟩ := HOW.out _ HBB
  refine (HX.out _ _ k1 k4).mono ?_
  rintro e w4 ⟨rfl, hb4⟩
  have HB4 : Hid (Below w3.heap.size w3 w4) := hb4
  clear hb4 HBB k1 k4
  obtain ⟨k1, ⟨p0, p1⟩, ⟨q0, q1⟩, k4⟩ := HOW.out _ HB4.out
  have HC : Hid (Calls Tryd.prog 7 #[.agg #[.string D.name, .slice oo D.steps.length oc]] w4 fun e w' => e = .returned (.tuple #[.int .i64 m1, .int .i64 m2]) ∧ Below w4.heap.size w4 w') := HX.out _ _ k1 k4
  clear k1 k4
  go_wp2_with fail
  refine HC.out.mono ?_
  rintro e w5 ⟨rfl, hb5⟩
  have HB5 : Hid (Below w3.heap.size w3 w5) := HB4.out.trans (hb5.mono HB4.out.size)
  clear hb5 HC p0 p1 q0 q1
  obtain ⟨k1, ⟨p0, p1⟩, ⟨q0, q1⟩, k4⟩ := HOW.out _ HB5.out
  have HK5 : Hid (Below w.heap.size w w5) := k1
  clear k1 k4
  go_wp2_with fail
  refine (CR.out _ HK5.out).mono ?_
  rintro e w6 ⟨rfl, hb6⟩
  have HB6 : Hid (Below w3.heap.size w3 w6) := HB5.out.trans (hb6.mono HB5.out.size)
  clear hb6 p0 p1 q0 q1
  obtain ⟨k1, ⟨p0, p1⟩, ⟨q0, q1⟩, k4⟩ := HOW.out _ HB6.out
  have HC2 : Hid (Calls Tryd.prog 9 #[.agg #[.string D.name, .slice oo D.steps.length oc], .agg #[.string D.name, .slice ao D.steps.length cap]] w6 fun e w' => e = .returned (.bool true) ∧ Below w6.heap.size w6 w') := HY.out _ _ k1 k4
  have HK6 : Hid (Below w.heap.size w w6) := k1
  clear k1 k4
  go_wp2_with fail
  refine HC2.out.mono ?_
  rintro e w7 ⟨rfl, hb7⟩
  have HK7 : Hid (Below w.heap.size w w7) := HK6.out.trans (hb7.mono HK6.out.size)
  clear hb7 HC2 p0 p1 q0 q1
  go_wp2_with fail
  refine (CL.out _ HK7.out).mono ?_
  rintro e w8 ⟨rfl, hb8⟩
  go_wp2_with fail
  go_ret
  exact ⟨rfl, hb8⟩
end Go.Proofs.YtbifnpemfkmckaaDoor
