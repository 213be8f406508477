/- The walk of the program's Copy, whole. -/
import Derived.Test.YtklgfapdgeoigaaDoorDkCopyW
set_option linter.unusedVariables false
set_option maxRecDepth 100000
namespace Go.Proofs.YtklgfapdgeoigaaDoor.Dk
open Go.RowKit
open DiskMath
set_option linter.unusedSimpArgs false

theorem idx0 (w : World) (v0 v1 v2 v3 v4 v5 v6 v7 : Value) : (Instr.index 102 (.agg #[v0, v1, v2, v3, v4, v5, v6, v7]) (.int .i64 0)).run Tryd.prog w = .ok (.agg #[v0, v1]) w := by
  simp [Instr.index, run_underlying Tryd.underlying102, asIntOf, go_sem]
theorem idx1 (w : World) (v0 v1 v2 v3 v4 v5 v6 v7 : Value) : (Instr.index 102 (.agg #[v0, v1, v2, v3, v4, v5, v6, v7]) (.int .i64 1)).run Tryd.prog w = .ok (.agg #[v2, v3]) w := by
  simp [Instr.index, run_underlying Tryd.underlying102, asIntOf, go_sem]
theorem idx2 (w : World) (v0 v1 v2 v3 v4 v5 v6 v7 : Value) : (Instr.index 102 (.agg #[v0, v1, v2, v3, v4, v5, v6, v7]) (.int .i64 2)).run Tryd.prog w = .ok (.agg #[v4, v5]) w := by
  simp [Instr.index, run_underlying Tryd.underlying102, asIntOf, go_sem]
theorem idx3 (w : World) (v0 v1 v2 v3 v4 v5 v6 v7 : Value) : (Instr.index 102 (.agg #[v0, v1, v2, v3, v4, v5, v6, v7]) (.int .i64 3)).run Tryd.prog w = .ok (.agg #[v6, v7]) w := by
  simp [Instr.index, run_underlying Tryd.underlying102, asIntOf, go_sem]
attribute [local go_sem] idx0 idx1 idx2 idx3

set_option maxRecDepth 100000 in
set_option maxHeartbeats 2000000 in
theorem copy_any (w : World) (b : Nat) (V : Nat → Value) (d : DS) (hP : PDisk w b V d) (hok : Ok d) :
    Calls Tryd.prog 25 #[.pointer (some ⟨b, 0, none⟩)] w fun e w' => e = .returned (.pointer (some ⟨w.heap.size, 0, none⟩)) ∧ Below w.heap.size w w' ∧ ∃ V', PDisk w' w.heap.size V' d ∧ ∀ j, fp w.heap.size V' j → w.heap.size ≤ j := by
  have HS : Hid (CInv w d 0 (w.alloc (.cells #[.slice none 0 0, .int .i64 0, .slice none 0 0, .int .i64 0, .slice none 0 0, .int .i64 0, .slice none 0 0, .int .i64 0, .int .i64 (d.R : Int)] 104))) := cinv_start w d
  have HONE : Hid (∀ wr k, k < 4 → CInv w d k wr → ∃ ao cap, V k = .slice ao (d.F k).length cap ∧
    Calls Tryd.prog 52 #[.slice ao (d.F k).length cap, .int .i64 ((d.F k).length : Int)] (wr.alloc (.cells #[V k, .int .i64 (d.S k : Int)] 101)).drew fun e w2 => ∃ ao' cap' x, e = .returned (.slice ao' (d.F k).length cap') ∧
      w2.cell? ⟨wr.heap.size, 0, none⟩ = some (.slice ao (d.F k).length cap) ∧ w2.cell? ⟨wr.heap.size, 1, none⟩ = some (.int .i64 (d.S k : Int)) ∧
      w2.cell? ⟨w.heap.size, k * 2, none⟩ = some x ∧ w2.frozen? ⟨w.heap.size, k * 2, none⟩ = false ∧ w2.cell? ⟨w.heap.size, k * 2 + 1, none⟩ = some (.int .i64 0) ∧ w2.frozen? ⟨w.heap.size, k * 2 + 1, none⟩ = false ∧
      Hid (CInv w d (k + 1) ((w2.setCell ⟨w.heap.size, k * 2, none⟩ (.slice ao' (d.F k).length cap')).setCell ⟨w.heap.size, k * 2 + 1, none⟩ (.int .i64 (d.S k : Int))))) := fun wr k hk h => copy_one w wr b V d hP hok k hk h
  have HEND : Hid (∀ wr, CInv w d 4 wr → Below w.heap.size w wr ∧ ∃ V', PDisk wr w.heap.size V' d ∧ ∀ j, fp w.heap.size V' j → w.heap.size ≤ j) := fun wr h => cinv_end h
  obtain ⟨ao0, cap0, v0, _, _⟩ := own_row (hP.rows 0 (by omega))
  obtain ⟨ao1, cap1, v1, _, _⟩ := own_row (hP.rows 1 (by omega))
  obtain ⟨ao2, cap2, v2, _, _⟩ := own_row (hP.rows 2 (by omega))
  obtain ⟨ao3, cap3, v3, _, _⟩ := own_row (hP.rows 3 (by omega))
  have a0 := hP.bytes 0 (by omega)
  have a1 := hP.bytes 1 (by omega)
  have a2 := hP.bytes 2 (by omega)
  have a3 := hP.bytes 3 (by omega)
  have s0 := hP.safe 0 (by omega)
  have s1 := hP.safe 1 (by omega)
  have s2 := hP.safe 2 (by omega)
  have s3 := hP.safe 3 (by omega)
  have r0 := hP.room
  have hlt := hP.lt
  rw [v0] at a0
  rw [v1] at a1
  rw [v2] at a2
  rw [v3] at a3
  simp only [Nat.zero_mul, Nat.one_mul, Nat.zero_add, Nat.reduceMul, Nat.reduceAdd] at a0 a1 a2 a3 s0 s1 s2 s3
  have HV0 : Hid (V 0 = .slice ao0 (d.F 0).length cap0) := v0
  have HV1 : Hid (V 1 = .slice ao1 (d.F 1).length cap1) := v1
  have HV2 : Hid (V 2 = .slice ao2 (d.F 2).length cap2) := v2
  have HV3 : Hid (V 3 = .slice ao3 (d.F 3).length cap3) := v3
  clear hP hok v0 v1 v2 v3
  go_enter Tryd.func25, Tryd.ntmps25
  go_wp2_with fail
  go_loopw [16] (fun i wr => ∃ k : Nat, k ≤ 4 ∧ i = .int .i64 (k : Int) ∧ Hid (CInv w d k wr)) (fun i _ => 4 - (intOf i).toNat)
  case atStart => exact ⟨0, Nat.zero_le _, rfl, HS⟩
  case round =>
    obtain ⟨k, hk4, rfl, HI⟩ := hrel
    clear a0 a1 a2 a3 s0 s1 s2 s3 r0 hlt HS
    by_cases hlt : k < 4
    · rcases (show k = 0 ∨ k = 1 ∨ k = 2 ∨ k = 3 by omega) with rfl | rfl | rfl | rfl
      · obtain ⟨ao, cap, hv, hc⟩ := HONE.out wr 0 (by omega) HI.out
        rw [HV0.out] at hv hc
        cases hv
        simp only [Nat.zero_mul, Nat.one_mul, Nat.zero_add, Nat.reduceMul, Nat.reduceAdd] at hc
        generalize (d.F 0).length = L at *
        generalize d.S 0 = S0 at *
        have HCC : Hid (Calls Tryd.prog 52 #[.slice ao0 L cap0, .int .i64 (L : Int)] (wr.alloc (.cells #[.slice ao0 L cap0, .int .i64 (S0 : Int)] 101)).drew fun e w2 => ∃ ao' cap' x, e = .returned (.slice ao' L cap') ∧
          w2.cell? ⟨wr.heap.size, 0, none⟩ = some (.slice ao0 L cap0) ∧ w2.cell? ⟨wr.heap.size, 1, none⟩ = some (.int .i64 (S0 : Int)) ∧
          w2.cell? ⟨w.heap.size, 0, none⟩ = some x ∧ w2.frozen? ⟨w.heap.size, 0, none⟩ = false ∧ w2.cell? ⟨w.heap.size, 1, none⟩ = some (.int .i64 0) ∧ w2.frozen? ⟨w.heap.size, 1, none⟩ = false ∧
          Hid (CInv w d 1 ((w2.setCell ⟨w.heap.size, 0, none⟩ (.slice ao' L cap')).setCell ⟨w.heap.size, 1, none⟩ (.int .i64 (S0 : Int))))) := hc
        have hne : w.heap.size < wr.heap.size := by
          obtain ⟨_, V', h2, _⟩ := HI.out
          exact h2.lt
        have hne1 : ¬ w.heap.size = wr.heap.size := by omega
        have hne2 : ¬ wr.heap.size = w.heap.size := by omega
        clear hc HI HONE HEND HV0 HV1 HV2 HV3
        go_wp2_with fail
        go_region_held3 (fun w' => w'.cell? ⟨wr.heap.size, 0, none⟩ = some (.slice ao0 L cap0) ∧ w'.cell? ⟨wr.heap.size, 1, none⟩ = some (.int .i64 (S0 : Int))) (go_keep) (first | (go_at_call 52; refine HCC.out.mono ?_; rintro e w2 ⟨ao', cap', x, rfl, m0, m1, m2, m3, m4, m5, HX⟩))
        all_goals go_wp2
        all_goals exact ⟨⟨1, by omega, by go_num, by assumption⟩, by simp [intOf]⟩
      · obtain ⟨ao, cap, hv, hc⟩ := HONE.out wr 1 (by omega) HI.out
        rw [HV1.out] at hv hc
        cases hv
        simp only [Nat.zero_mul, Nat.one_mul, Nat.zero_add, Nat.reduceMul, Nat.reduceAdd] at hc
        generalize (d.F 1).length = L at *
        generalize d.S 1 = S0 at *
        have HCC : Hid (Calls Tryd.prog 52 #[.slice ao1 L cap1, .int .i64 (L : Int)] (wr.alloc (.cells #[.slice ao1 L cap1, .int .i64 (S0 : Int)] 101)).drew fun e w2 => ∃ ao' cap' x, e = .returned (.slice ao' L cap') ∧
          w2.cell? ⟨wr.heap.size, 0, none⟩ = some (.slice ao1 L cap1) ∧ w2.cell? ⟨wr.heap.size, 1, none⟩ = some (.int .i64 (S0 : Int)) ∧
          w2.cell? ⟨w.heap.size, 2, none⟩ = some x ∧ w2.frozen? ⟨w.heap.size, 2, none⟩ = false ∧ w2.cell? ⟨w.heap.size, 3, none⟩ = some (.int .i64 0) ∧ w2.frozen? ⟨w.heap.size, 3, none⟩ = false ∧
          Hid (CInv w d 2 ((w2.setCell ⟨w.heap.size, 2, none⟩ (.slice ao' L cap')).setCell ⟨w.heap.size, 3, none⟩ (.int .i64 (S0 : Int))))) := hc
        have hne : w.heap.size < wr.heap.size := by
          obtain ⟨_, V', h2, _⟩ := HI.out
          exact h2.lt
        have hne1 : ¬ w.heap.size = wr.heap.size := by omega
        have hne2 : ¬ wr.heap.size = w.heap.size := by omega
        clear hc HI HONE HEND HV0 HV1 HV2 HV3
        go_wp2_with fail
        go_region_held3 (fun w' => w'.cell? ⟨wr.heap.size, 0, none⟩ = some (.slice ao1 L cap1) ∧ w'.cell? ⟨wr.heap.size, 1, none⟩ = some (.int .i64 (S0 : Int))) (go_keep) (first | (go_at_call 52; refine HCC.out.mono ?_; rintro e w2 ⟨ao', cap', x, rfl, m0, m1, m2, m3, m4, m5, HX⟩))
        all_goals go_wp2
        all_goals exact ⟨⟨2, by omega, by go_num, by assumption⟩, by simp [intOf]⟩
      · obtain ⟨ao, cap, hv, hc⟩ := HONE.out wr 2 (by omega) HI.out
        rw [HV2.out] at hv hc
        cases hv
        simp only [Nat.zero_mul, Nat.one_mul, Nat.zero_add, Nat.reduceMul, Nat.reduceAdd] at hc
        generalize (d.F 2).length = L at *
        generalize d.S 2 = S0 at *
        have HCC : Hid (Calls Tryd.prog 52 #[.slice ao2 L cap2, .int .i64 (L : Int)] (wr.alloc (.cells #[.slice ao2 L cap2, .int .i64 (S0 : Int)] 101)).drew fun e w2 => ∃ ao' cap' x, e = .returned (.slice ao' L cap') ∧
          w2.cell? ⟨wr.heap.size, 0, none⟩ = some (.slice ao2 L cap2) ∧ w2.cell? ⟨wr.heap.size, 1, none⟩ = some (.int .i64 (S0 : Int)) ∧
          w2.cell? ⟨w.heap.size, 4, none⟩ = some x ∧ w2.frozen? ⟨w.heap.size, 4, none⟩ = false ∧ w2.cell? ⟨w.heap.size, 5, none⟩ = some (.int .i64 0) ∧ w2.frozen? ⟨w.heap.size, 5, none⟩ = false ∧
          Hid (CInv w d 3 ((w2.setCell ⟨w.heap.size, 4, none⟩ (.slice ao' L cap')).setCell ⟨w.heap.size, 5, none⟩ (.int .i64 (S0 : Int))))) := hc
        have hne : w.heap.size < wr.heap.size := by
          obtain ⟨_, V', h2, _⟩ := HI.out
          exact h2.lt
        have hne1 : ¬ w.heap.size = wr.heap.size := by omega
        have hne2 : ¬ wr.heap.size = w.heap.size := by omega
        clear hc HI HONE HEND HV0 HV1 HV2 HV3
        go_wp2_with fail
        go_region_held3 (fun w' => w'.cell? ⟨wr.heap.size, 0, none⟩ = some (.slice ao2 L cap2) ∧ w'.cell? ⟨wr.heap.size, 1, none⟩ = some (.int .i64 (S0 : Int))) (go_keep) (first | (go_at_call 52; refine HCC.out.mono ?_; rintro e w2 ⟨ao', cap', x, rfl, m0, m1, m2, m3, m4, m5, HX⟩))
        all_goals go_wp2
        all_goals exact ⟨⟨3, by omega, by go_num, by assumption⟩, by simp [intOf]⟩
      · obtain ⟨ao, cap, hv, hc⟩ := HONE.out wr 3 (by omega) HI.out
        rw [HV3.out] at hv hc
        cases hv
        simp only [Nat.zero_mul, Nat.one_mul, Nat.zero_add, Nat.reduceMul, Nat.reduceAdd] at hc
        generalize (d.F 3).length = L at *
        generalize d.S 3 = S0 at *
        have HCC : Hid (Calls Tryd.prog 52 #[.slice ao3 L cap3, .int .i64 (L : Int)] (wr.alloc (.cells #[.slice ao3 L cap3, .int .i64 (S0 : Int)] 101)).drew fun e w2 => ∃ ao' cap' x, e = .returned (.slice ao' L cap') ∧
          w2.cell? ⟨wr.heap.size, 0, none⟩ = some (.slice ao3 L cap3) ∧ w2.cell? ⟨wr.heap.size, 1, none⟩ = some (.int .i64 (S0 : Int)) ∧
          w2.cell? ⟨w.heap.size, 6, none⟩ = some x ∧ w2.frozen? ⟨w.heap.size, 6, none⟩ = false ∧ w2.cell? ⟨w.heap.size, 7, none⟩ = some (.int .i64 0) ∧ w2.frozen? ⟨w.heap.size, 7, none⟩ = false ∧
          Hid (CInv w d 4 ((w2.setCell ⟨w.heap.size, 6, none⟩ (.slice ao' L cap')).setCell ⟨w.heap.size, 7, none⟩ (.int .i64 (S0 : Int))))) := hc
        have hne : w.heap.size < wr.heap.size := by
          obtain ⟨_, V', h2, _⟩ := HI.out
          exact h2.lt
        have hne1 : ¬ w.heap.size = wr.heap.size := by omega
        have hne2 : ¬ wr.heap.size = w.heap.size := by omega
        clear hc HI HONE HEND HV0 HV1 HV2 HV3
        go_wp2_with fail
        go_region_held3 (fun w' => w'.cell? ⟨wr.heap.size, 0, none⟩ = some (.slice ao3 L cap3) ∧ w'.cell? ⟨wr.heap.size, 1, none⟩ = some (.int .i64 (S0 : Int))) (go_keep) (first | (go_at_call 52; refine HCC.out.mono ?_; rintro e w2 ⟨ao', cap', x, rfl, m0, m1, m2, m3, m4, m5, HX⟩))
        all_goals go_wp2
        all_goals exact ⟨⟨4, by omega, by go_num, by assumption⟩, by simp [intOf]⟩
    · obtain rfl : k = 4 := by omega
      have HE := HEND.out _ HI.out
      have HEE : Hid (Below w.heap.size w wr ∧ ∃ V', PDisk wr w.heap.size V' d ∧ ∀ j, fp w.heap.size V' j → w.heap.size ≤ j) := HE
      clear HE HI HONE HEND
      go_wp2
      go_ret
      exact ⟨rfl, HEE.out⟩
end Go.Proofs.YtklgfapdgeoigaaDoor.Dk