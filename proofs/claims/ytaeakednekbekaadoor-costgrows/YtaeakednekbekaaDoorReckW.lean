/- The walk of reckon: what an instance may need of each node. -/
import Derived.Test.YtaeakednekbekaaDoorRecW
import Derived.Test.YtaeakednekbekaaDoorCheckW
import Derived.Deep.DeepCutAuto
import Derived.Deep.RegionHeld3
set_option linter.unusedVariables false
set_option maxRecDepth 100000
namespace Go.Proofs.YtaeakednekbekaaDoor
open Go.RowKit CheckMath
open Go.Proofs.YtaeakednekbekaaDoor.Nm

/-- What reckon answers. -/
noncomputable def recM (D : DefD) : Nat → Nat := if (checkM D).2 = 0 then rec5 D.steps else fun _ => 0
theorem and_ex (f g : Nat → Nat) (hf : ∀ j, f j ≤ 1000000) (hg : ∀ j, g j ≤ 1000000) (w : World) :
    Calls Tryd.prog 25 #[.agg #[.int .i64 (f 0 : Nat), .int .i64 (f 1 : Nat), .int .i64 (f 2 : Nat), .int .i64 (f 3 : Nat), .int .i64 (f 4 : Nat)], .agg #[.int .i64 (g 0 : Nat), .int .i64 (g 1 : Nat), .int .i64 (g 2 : Nat), .int .i64 (g 3 : Nat), .int .i64 (g 4 : Nat)]] w fun e w' =>
      e = .returned (.agg #[.int .i64 (f 0 + g 0 : Nat), .int .i64 (f 1 + g 1 : Nat), .int .i64 (f 2 + g 2 : Nat), .int .i64 (f 3 + g 3 : Nat), .int .i64 (f 4 + g 4 : Nat)]) ∧ Below w.heap.size w w' := and_any f g hf hg w

set_option maxHeartbeats 2000000 in
theorem reckon_bad (v : Value) (D : DefD) (w : World) (h : DefIn w v D) (hT : Tabs w) (hc : (checkM D).2 ≠ 0) :
    Calls Tryd.prog 17 #[v] w fun e w' => e = .returned (.agg #[.int .i64 0, .int .i64 0, .int .i64 0, .int .i64 0, .int .i64 0]) ∧ Below w.heap.size w w' := by
  have CX : Hid (∀ wq, Below w.heap.size w wq → Calls Tryd.prog 23 #[v] wq fun e w' => e = .returned (.tuple #[.int .i64 (checkM D).1, .int .i64 (checkM D).2]) ∧ Below wq.heap.size wq w') := fun wq hq => check_any v D wq (h.below hq) (Utf8Tabs_below hT hq)
  obtain ⟨sv, rfl, hd⟩ := h
  obtain ⟨ao, cap, rfl, hcap, _, hlen, _⟩ := hd
  have hc2 : ((checkM D).2 == 0) = false := by simpa using hc
  have HB : Hid (Below w.heap.size w ((w.alloc (.cells #[.string D.name, .slice ao D.steps.length cap] 24)).alloc (.cells #[.int .i64 0, .int .i64 0, .int .i64 0, .int .i64 0, .int .i64 0] 47))) := ((Below.refl _ _).alloc (Nat.le_refl _) _).alloc (by simp) _
  have HC : Hid (∀ wq, Below ((w.alloc (.cells #[.string D.name, .slice ao D.steps.length cap] 24)).alloc (.cells #[.int .i64 0, .int .i64 0, .int .i64 0, .int .i64 0, .int .i64 0] 47)).heap.size ((w.alloc (.cells #[.string D.name, .slice ao D.steps.length cap] 24)).alloc (.cells #[.int .i64 0, .int .i64 0, .int .i64 0, .int .i64 0, .int .i64 0] 47)) wq →
      (wq.cell? ⟨w.heap.size + 1, 0, none⟩ = some (.int .i64 0) ∧ wq.cell? ⟨w.heap.size + 1, 1, none⟩ = some (.int .i64 0) ∧ wq.cell? ⟨w.heap.size + 1, 2, none⟩ = some (.int .i64 0) ∧ wq.cell? ⟨w.heap.size + 1, 3, none⟩ = some (.int .i64 0) ∧ wq.cell? ⟨w.heap.size + 1, 4, none⟩ = some (.int .i64 0)) ∧
      (wq.frozen? ⟨w.heap.size + 1, 0, none⟩ = false ∧ wq.frozen? ⟨w.heap.size + 1, 1, none⟩ = false ∧ wq.frozen? ⟨w.heap.size + 1, 2, none⟩ = false ∧ wq.frozen? ⟨w.heap.size + 1, 3, none⟩ = false ∧ wq.frozen? ⟨w.heap.size + 1, 4, none⟩ = false) ∧ Below w.heap.size w wq) := fun wq hq => by
    have hs : w.heap.size + 1 < ((w.alloc (.cells #[.string D.name, .slice ao D.steps.length cap] 24)).alloc (.cells #[.int .i64 0, .int .i64 0, .int .i64 0, .int .i64 0, .int .i64 0] 47)).heap.size := by simp
    refine ⟨⟨?_, ?_, ?_, ?_, ?_⟩, ⟨?_, ?_, ?_, ?_, ?_⟩, HB.out.trans (hq.mono (by simp; omega))⟩
    · exact (hq.cell (p := ⟨w.heap.size + 1, 0, none⟩) hs).trans (by go_simp)
    · exact (hq.cell (p := ⟨w.heap.size + 1, 1, none⟩) hs).trans (by go_simp)
    · exact (hq.cell (p := ⟨w.heap.size + 1, 2, none⟩) hs).trans (by go_simp)
    · exact (hq.cell (p := ⟨w.heap.size + 1, 3, none⟩) hs).trans (by go_simp)
    · exact (hq.cell (p := ⟨w.heap.size + 1, 4, none⟩) hs).trans (by go_simp)
    · exact (hq.frozen (p := ⟨w.heap.size + 1, 0, none⟩) hs).trans (by go_simp)
    · exact (hq.frozen (p := ⟨w.heap.size + 1, 1, none⟩) hs).trans (by go_simp)
    · exact (hq.frozen (p := ⟨w.heap.size + 1, 2, none⟩) hs).trans (by go_simp)
    · exact (hq.frozen (p := ⟨w.heap.size + 1, 3, none⟩) hs).trans (by go_simp)
    · exact (hq.frozen (p := ⟨w.heap.size + 1, 4, none⟩) hs).trans (by go_simp)
  generalize (checkM D).1 = m1 at *
  generalize (checkM D).2 = m2 at *
  clear hc
  go_enter Tryd.func17, Tryd.ntmps17
  go_wp2_with fail
  refine (CX.out _ HB.out).mono ?_
  rintro e w1 ⟨rfl, hb1⟩
  obtain ⟨⟨c0, c1, c2, c3, c4⟩, ⟨f0, f1, f2, f3, f4⟩, hb⟩ := HC.out _ hb1
  have HB1 : Hid (Below w.heap.size w w1) := hb
  have HSZ : Hid (w.heap.size ≤ w1.heap.size) := hb.size
  clear HC HB CX hb1 hb
  go_wp2_with fail
  have hsz := HSZ.out
  exact bodyPost_ret (results_five rfl _ _ (w.heap.size + 1) _ _ _ _ _ _ rfl (by go_simp) (by go_simp) (by go_simp) (by go_simp) (by go_simp) Tryd.underlying47 rfl (by kernel_rfl)) rfl ⟨rfl, (((((HB1.out.setCell (by simp) _).setCell (by simp) _).setCell (by simp) _).setCell (by simp) _).setCell (by simp) _)⟩
end Go.Proofs.YtaeakednekbekaaDoor
