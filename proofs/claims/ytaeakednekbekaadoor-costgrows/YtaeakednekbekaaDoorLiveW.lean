/- The walk of live. -/
import Derived.Test.YtaeakednekbekaaDoorNamedW
import Derived.Test.YtaeakednekbekaaDoorRoomW
set_option linter.unusedVariables false
set_option maxRecDepth 100000
namespace Go.Proofs.YtaeakednekbekaaDoor
open Go.RowKit CheckMath
open Go.Proofs.YtaeakednekbekaaDoor.Nm

def stepL : StepD := ⟨⟨#[98]⟩, 1, 1, [], []⟩
def defL : DefD := ⟨⟨#[97]⟩, [stepL]⟩
theorem isN_a : isN ⟨#[97]⟩ = true := by decide +kernel
theorem isN_b : isN ⟨#[98]⟩ = true := by decide +kernel
theorem nthL : nth [stepL] 0 = stepL := rfl
theorem faultL : stepFault [stepL] 0 = 0 := by
  unfold stepFault
  rw [nthL, if_neg (by simp [stepL, isN_b]), if_neg (by rw [tt_no (fun ⟨k, hk, _⟩ => absurd hk (Nat.not_lt_zero _))]; simp), if_neg (by simp [stepL]), if_neg (by simp [stepL]), tt_yes (show KeysOk stepL from ⟨by simp [stepL], fun i hi => by simp [stepL] at hi⟩), if_neg (by simp),
    tt_yes (show NeedsOk stepL.needs 0 [stepL].length from fun i hi => by simp [stepL] at hi), if_neg (by simp)]
theorem checkL : (checkM defL).2 = 0 := by
  rw [checkM_ok]
  refine ⟨isN_a, by simp [defL], by simp [defL], fun i hi => ?_, fun i hi h => ?_, fun i hi h => ?_, fun i hi h => ?_, fun i hi h => ?_⟩
  all_goals obtain rfl : i = 0 := by simp [defL] at hi; exact hi
  · exact faultL
  · have := h.1; change (nth [stepL] 0).kind = 2 at this; rw [nthL] at this; simp [stepL] at this
  · obtain ⟨_, x, hx, _⟩ := h; change x ∈ (nth [stepL] 0).needs at hx; rw [nthL] at hx; simp [stepL] at hx
  · cases h with
    | one e => have := e.2.2; change _ ∈ (nth [stepL] 0).needs at this; rw [nthL] at this; simp [stepL] at this
    | cons e _ => have := e.2.2; change _ ∈ (nth [stepL] 0).needs at this; rw [nthL] at this; simp [stepL] at this
  · have := h.1; change (nth [stepL] 0).kind = 3 at this; rw [nthL] at this; simp [stepL] at this
theorem namedL : nbL (namedB defL) 4 = [1] := by
  have h : ∀ p, namedB defL p = nmd [stepL] p := fun p => by unfold namedB; rw [decide_eq_true checkL, Bool.true_and]; rfl
  unfold nbL
  rw [show namedB defL = nmd [stepL] from funext h]
  decide
theorem recL : rec5 defL.steps 4 = 7 ∧ rec5 defL.steps 0 = 0 ∧ rec5 defL.steps 1 = 3 ∧ rec5 defL.steps 2 = 0 ∧ rec5 defL.steps 3 = 0 := by decide
/-- A definition of one step as live lays it. -/
theorem defL_in (w : World) (sb : Nat) (h0 : w.cell? ⟨sb, 0, none⟩ = some (.string ⟨#[98]⟩)) (h1 : w.cell? ⟨sb, 1, none⟩ = some (.int .i64 1)) (h2 : w.cell? ⟨sb, 2, none⟩ = some (.int .i64 1))
    (h3 : w.cell? ⟨sb, 3, none⟩ = some (.slice none 0 0)) (h4 : w.cell? ⟨sb, 4, none⟩ = some (.slice none 0 0)) : DefIn w (.agg #[.string ⟨#[97]⟩, .slice (some ⟨sb, 0, none⟩) 1 1]) defL := by
  refine ⟨_, rfl, some ⟨sb, 0, none⟩, 1, rfl, Nat.le_refl _, fun h => (by cases h), by simp [defL], fun j hj => ?_⟩
  obtain rfl : j = 0 := by simp [defL] at hj; exact hj
  exact ⟨sb, 0, rfl, block_lt_of_cell h0, h0, h1, h2, _, _, h3, h4, ⟨none, 0, rfl, Nat.le_refl _, fun _ => rfl, ⟨by simp [defL, stepL, nth], fun x hx => by simp [defL, stepL, nth] at hx⟩, fun j hj => by simp [defL, stepL, nth] at hj⟩, none, 0, rfl, Nat.le_refl _, fun _ => rfl, by simp [defL, stepL, nth], fun j hj => by simp [defL, stepL, nth] at hj⟩

def liveW (w : World) : World := (w.alloc (.cells #[.string ⟨#[98]⟩, .int .i64 1, .int .i64 1, .slice none 0 0, .slice none 0 0] 44)).alloc (.cells #[.string ⟨#[97]⟩, .slice (some ⟨w.heap.size, 0, none⟩) 1 1] 24)
theorem liveW_ok (w : World) : ∀ wq, Below (liveW w).heap.size (liveW w) wq → Below w.heap.size w wq ∧ DefIn wq (.agg #[.string ⟨#[97]⟩, .slice (some ⟨w.heap.size, 0, none⟩) 1 1]) defL ∧ wq.cell? ⟨w.heap.size + 1, 0, none⟩ = some (.string ⟨#[97]⟩) ∧ wq.cell? ⟨w.heap.size + 1, 1, none⟩ = some (.slice (some ⟨w.heap.size, 0, none⟩) 1 1) ∧ w.heap.size + 1 < wq.heap.size := by
  intro wq hq
  have s1 : ∀ (w : World) (o : Obj), (w.alloc o).heap.size = w.heap.size + 1 := fun w o => by simp
  have hs : (liveW w).heap.size = w.heap.size + 1 + 1 := by unfold liveW; simp only [s1]
  have hb : Below w.heap.size w (liveW w) := ((Below.refl _ w).alloc (Nat.le_refl _) _).alloc (by simp only [s1]; omega) _
  refine ⟨hb.trans (hq.mono (by omega)), DefIn.below (defL_in _ w.heap.size ?_ ?_ ?_ ?_ ?_) hq, (hq.cell (p := ⟨w.heap.size + 1, 0, none⟩) (by simp only; omega)).trans ?_, (hq.cell (p := ⟨w.heap.size + 1, 1, none⟩) (by simp only; omega)).trans ?_, by have := hq.size; omega⟩
  all_goals unfold liveW
  all_goals go_simp

set_option maxHeartbeats 2000000 in
theorem live_any (w : World) (hT : Tabs w) : Calls Tryd.prog 13 #[] w fun e w' => e = .returned (.bool true) ∧ Below w.heap.size w w' := by
  have HW : Hid (∀ wq, Below (liveW w).heap.size (liveW w) wq → Below w.heap.size w wq ∧ DefIn wq (.agg #[.string ⟨#[97]⟩, .slice (some ⟨w.heap.size, 0, none⟩) 1 1]) defL ∧ wq.cell? ⟨w.heap.size + 1, 0, none⟩ = some (.string ⟨#[97]⟩) ∧ wq.cell? ⟨w.heap.size + 1, 1, none⟩ = some (.slice (some ⟨w.heap.size, 0, none⟩) 1 1) ∧ w.heap.size + 1 < wq.heap.size) := liveW_ok w
  have C1 : Hid (∀ wq, Below w.heap.size w wq → DefIn wq (.agg #[.string ⟨#[97]⟩, .slice (some ⟨w.heap.size, 0, none⟩) 1 1]) defL → Calls Tryd.prog 7 #[.agg #[.string ⟨#[97]⟩, .slice (some ⟨w.heap.size, 0, none⟩) 1 1]] wq fun e w' => e = .returned (.tuple #[.agg #[.int .i64 7, .int .i64 0, .int .i64 3, .int .i64 0, .int .i64 0], .int .i64 0]) ∧ Below wq.heap.size wq w') := fun wq hq hd => by
    have := of_good _ defL wq hd (Utf8Tabs_below hT hq) checkL
    rw [recL.1, recL.2.1, recL.2.2.1, recL.2.2.2.1, recL.2.2.2.2] at this
    exact this
  have C2 : Hid (∀ wq, Below w.heap.size w wq → DefIn wq (.agg #[.string ⟨#[97]⟩, .slice (some ⟨w.heap.size, 0, none⟩) 1 1]) defL → Calls Tryd.prog 9 #[.agg #[.string ⟨#[97]⟩, .slice (some ⟨w.heap.size, 0, none⟩) 1 1]] wq fun e w' => ∃ v', e = .returned v' ∧ w'.ownsRow wq.heap.size 3 1 v' 1 [.int .i64 1] ∧ Below wq.heap.size wq w') := fun wq hq hd => by
    have := named_any _ defL wq hd (Utf8Tabs_below hT hq)
    rw [namedL] at this
    exact this
  have C3 : Hid (∀ wq, Calls Tryd.prog 14 #[.int .i64 4, .int .i64 10] wq fun e w' => e = .returned (.tuple #[.int .i64 65680, .int .i64 0]) ∧ w' = wq) := fun wq => room_any 4 10 wq
  have KE : ∀ wq, (binOp .eql 28 (.agg #[.int .i64 7, .int .i64 0, .int .i64 3, .int .i64 0, .int .i64 0]) (.agg #[.int .i64 7, .int .i64 0, .int .i64 3, .int .i64 0, .int .i64 0])).run Tryd.prog wq = .ok (.bool true) wq := fun wq => by rw [run_eql_struct, eqCost]; rfl
  have HB0 : Hid (Below (liveW w).heap.size (liveW w) (liveW w)) := Below.refl _ _
  clear hT
  go_enter Tryd.func13, Tryd.ntmps13
  go_wp2_with fail
  obtain ⟨k1, k2, p0, p1, p2⟩ := HW.out _ HB0.out
  refine (C1.out _ k1 k2).mono ?_
  rintro e w1 ⟨rfl, hb1⟩
  have HB1 : Hid (Below (liveW w).heap.size (liveW w) w1) := hb1
  clear C1 HB0 k1 k2 p0 p1 p2 hb1
  go_wp2_with fail
  refine (C3.out _).mono ?_
  rintro e w2 ⟨rfl, hw2⟩
  rw [hw2]
  clear hw2 w2 C3
  have HB2 : Hid (Below (liveW w).heap.size (liveW w) (w1.alloc (.cells #[.int .i64 7, .int .i64 0, .int .i64 3, .int .i64 0, .int .i64 0] 28))) := HB1.out.alloc HB1.out.size _
  obtain ⟨_, _, r0, r1, r2⟩ := HW.out _ HB1.out
  go_wp2_with fail
  obtain ⟨k1, k2, _, _, _⟩ := HW.out _ HB2.out
  refine (C2.out _ k1 k2).mono ?_
  rintro e w3 ⟨v', rfl, hown, hb3⟩
  obtain ⟨ao, cap, rfl, hcap, hn0, hr⟩ := own_form hown
  cases ao with
  | none => exact absurd (hn0 rfl).1 (by decide)
  | some p =>
    obtain ⟨g, rfl, _, m2, m3, _, _⟩ := hr p rfl
    have x0 := m3 0 (by decide)
    have HBE : Hid (Below w.heap.size w w3) := (HW.out _ (HB2.out.trans (hb3.mono HB2.out.size))).1
    have hs : w1.heap.size < (w1.alloc (.cells #[.int .i64 7, .int .i64 0, .int .i64 3, .int .i64 0, .int .i64 0] 28)).heap.size := by simp
    have y0 := (hb3.cell (p := ⟨w1.heap.size, 0, none⟩) hs).trans (by go_simp : _ = some (.int .i64 7))
    have y1 := (hb3.cell (p := ⟨w1.heap.size, 1, none⟩) hs).trans (by go_simp : _ = some (.int .i64 0))
    have y2 := (hb3.cell (p := ⟨w1.heap.size, 2, none⟩) hs).trans (by go_simp : _ = some (.int .i64 3))
    have y3 := (hb3.cell (p := ⟨w1.heap.size, 3, none⟩) hs).trans (by go_simp : _ = some (.int .i64 0))
    have y4 := (hb3.cell (p := ⟨w1.heap.size, 4, none⟩) hs).trans (by go_simp : _ = some (.int .i64 0))
    simp only [List.getElem?_cons_zero] at x0
    clear hown hb3 hr hs m2 m3 k1 k2 C2 HB1 HB2 HW hn0
    go_wp2_with fail
    go_ret
    exact ⟨rfl, HBE.out⟩
end Go.Proofs.YtaeakednekbekaaDoor
