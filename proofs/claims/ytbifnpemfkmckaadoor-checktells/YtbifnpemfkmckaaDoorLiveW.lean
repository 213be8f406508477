/- The walk of live, in the law's package. -/
import Derived.Test.YtbifnpemfkmckaaDoorCheckW
set_option linter.unusedVariables false
set_option maxRecDepth 100000
namespace Go.Proofs.YtbifnpemfkmckaaDoor
open Go.RowKit CheckMath
open Go.Proofs.YtbifnpemfkmckaaDoor.Nm

def roomT : ByteArray := ⟨#[114, 111, 111, 109]⟩
def stepL (p : Int) : StepD := ⟨⟨#[98]⟩, 1, p, [roomT], []⟩
def defL (p : Int) : DefD := ⟨⟨#[97]⟩, [stepL p]⟩
theorem isN_a : isN ⟨#[97]⟩ = true := by decide +kernel
theorem isN_b : isN ⟨#[98]⟩ = true := by decide +kernel
theorem isN_room : isN roomT = true := by decide +kernel
theorem own_room : ownN roomT = 1 := by decide +kernel
theorem keysL (p : Int) : KeysOk (stepL p) ↔ p = 1 := by
  constructor
  · intro h
    have := (h.2 0 (by simp [stepL])).2.1
    simp [stepL, keyAt, own_room] at this
    exact this.symm
  · rintro rfl
    refine ⟨by simp [stepL], fun i hi => ?_⟩
    have : i = 0 := by simp [stepL] at hi; exact hi
    subst this
    refine ⟨?_, ?_, fun h => absurd h (Nat.lt_irrefl _)⟩
    · simp [stepL, keyAt, isN_room]
    · simp [stepL, keyAt, own_room]
theorem nthL (p : Int) : nth [stepL p] 0 = stepL p := rfl
theorem faultL (p : Int) (h0 : 0 ≤ p) (h3 : p < 4) : stepFault [stepL p] 0 = if p = 1 then 0 else 115 := by
  unfold stepFault
  rw [nthL, if_neg (by simp [stepL, isN_b]), if_neg (by rw [tt_no (fun ⟨k, hk, _⟩ => absurd hk (Nat.not_lt_zero _))]; simp), if_neg (by simp [stepL]), if_neg (by simp [stepL]; omega)]
  by_cases h : p = 1
  · rw [if_pos h, tt_yes ((keysL p).2 h), if_neg (by simp), tt_yes (show NeedsOk (stepL p).needs 0 [stepL p].length from fun i hi => by simp [stepL] at hi), if_neg (by simp)]
  · rw [if_neg h, tt_no (fun e => h ((keysL p).1 e)), if_pos rfl]
theorem checkL_bad : checkM (defL 0) = (0, 115) := by
  have hf : stepFault [stepL 0] 0 = 115 := by rw [faultL 0 (by omega) (by omega), if_neg (by omega)]
  unfold checkM
  rw [if_neg (by simp [defL, isN_a]), if_neg (by simp [defL])]
  show stepsF [stepL 0] 0 (0 + 1) = _
  rw [stepsF_stop (by rw [hf]; omega), hf]
  rfl
theorem checkL_good : checkM (defL 1) = (-1, 0) := by
  have hf : stepFault [stepL 1] 0 = 0 := by rw [faultL 1 (by omega) (by omega), if_pos rfl]
  unfold checkM
  rw [if_neg (by simp [defL, isN_a]), if_neg (by simp [defL])]
  show stepsF [stepL 1] 0 (0 + 1) = _
  rw [stepsF_go hf]
  show amongM [stepL 1] = _
  have h1 : (amongM [stepL 1]).2 = 0 := by
    rw [amongM_ok]
    refine ⟨fun i hi h => ?_, fun i hi h => ?_, fun i hi h => ?_, fun i hi h => ?_⟩
    all_goals obtain rfl : i = 0 := by simp at hi; exact hi
    · have := h.1; rw [nthL] at this; simp [stepL] at this
    · obtain ⟨_, x, hx, _⟩ := h; rw [nthL] at hx; simp [stepL] at hx
    · cases h with
      | one e => have := e.2.2; rw [nthL] at this; simp [stepL] at this
      | cons e _ => have := e.2.2; rw [nthL] at this; simp [stepL] at this
    · have := h.1; rw [nthL] at this; simp [stepL] at this
  exact Prod.ext ((amongM_range [stepL 1]).2.2.2.2 h1) h1
/-- A definition of one step as live lays it. -/
theorem defL_in (w : World) (p : Int) (kb sb : Nat) (hk : w.cell? ⟨kb, 0, none⟩ = some (.string roomT)) (h0 : w.cell? ⟨sb, 0, none⟩ = some (.string ⟨#[98]⟩)) (h1 : w.cell? ⟨sb, 1, none⟩ = some (.int .i64 1)) (h2 : w.cell? ⟨sb, 2, none⟩ = some (.int .i64 p))
    (h3 : w.cell? ⟨sb, 3, none⟩ = some (.slice (some ⟨kb, 0, none⟩) 1 1)) (h4 : w.cell? ⟨sb, 4, none⟩ = some (.slice none 0 0)) : DefIn w (.agg #[.string ⟨#[97]⟩, .slice (some ⟨sb, 0, none⟩) 1 1]) (defL p) := by
  refine ⟨_, rfl, some ⟨sb, 0, none⟩, 1, rfl, Nat.le_refl _, fun h => (by cases h), by simp [defL], fun j hj => ?_⟩
  obtain rfl : j = 0 := by simp [defL] at hj; exact hj
  refine ⟨sb, 0, rfl, block_lt_of_cell h0, h0, h1, h2, _, _, h3, h4, ⟨some ⟨kb, 0, none⟩, 1, rfl, Nat.le_refl _, fun h => (by cases h), ⟨by simp [defL, stepL, nth], fun x hx => ?_⟩, fun j hj => ?_⟩, none, 0, rfl, Nat.le_refl _, fun _ => rfl, by simp [defL, stepL, nth], fun j hj => ?_⟩
  · have : x = roomT := by simpa [defL, stepL, nth] using hx
    subst this
    decide
  · obtain rfl : j = 0 := by simp [defL, stepL, nth] at hj; exact hj
    exact ⟨kb, 0, rfl, block_lt_of_cell hk, hk⟩
  · simp [defL, stepL, nth] at hj

def liveW (w : World) : World := (((((w.alloc (.cells #[.string roomT] 9)).alloc (.cells #[.string ⟨#[98]⟩, .int .i64 1, .int .i64 1, .slice (some ⟨w.heap.size, 0, none⟩) 1 1, .slice none 0 0] 35)).alloc (.cells #[.string ⟨#[97]⟩, .slice (some ⟨w.heap.size + 1, 0, none⟩) 1 1] 24)).alloc
  (.cells #[.string roomT] 9)).alloc (.cells #[.string ⟨#[98]⟩, .int .i64 1, .int .i64 0, .slice (some ⟨w.heap.size + 1 + 1 + 1, 0, none⟩) 1 1, .slice none 0 0] 35)).alloc (.cells #[.string ⟨#[97]⟩, .slice (some ⟨w.heap.size + 1 + 1 + 1 + 1, 0, none⟩) 1 1] 24)
theorem liveW_ok (w : World) : Below w.heap.size w (liveW w) ∧ DefIn (liveW w) (.agg #[.string ⟨#[97]⟩, .slice (some ⟨w.heap.size + 1, 0, none⟩) 1 1]) (defL 1) ∧ DefIn (liveW w) (.agg #[.string ⟨#[97]⟩, .slice (some ⟨w.heap.size + 1 + 1 + 1 + 1, 0, none⟩) 1 1]) (defL 0) ∧
    (liveW w).cell? ⟨w.heap.size + 1 + 1 + 1 + 1 + 1, 0, none⟩ = some (.string ⟨#[97]⟩) ∧ (liveW w).cell? ⟨w.heap.size + 1 + 1 + 1 + 1 + 1, 1, none⟩ = some (.slice (some ⟨w.heap.size + 1 + 1 + 1 + 1, 0, none⟩) 1 1) ∧ w.heap.size + 1 + 1 + 1 + 1 + 1 < (liveW w).heap.size := by
  unfold liveW
  have s1 : ∀ (w : World) (o : Obj), (w.alloc o).heap.size = w.heap.size + 1 := fun w o => by simp
  refine ⟨?_, defL_in _ 1 w.heap.size (w.heap.size + 1) ?_ ?_ ?_ ?_ ?_ ?_, defL_in _ 0 (w.heap.size + 1 + 1 + 1) (w.heap.size + 1 + 1 + 1 + 1) ?_ ?_ ?_ ?_ ?_ ?_, ?_, ?_, by simp only [s1]; omega⟩
  · exact ((((((Below.refl _ w).alloc (Nat.le_refl _) _).alloc (by simp only [s1]; omega) _).alloc (by simp only [s1]; omega) _).alloc (by simp only [s1]; omega) _).alloc (by simp only [s1]; omega) _).alloc (by simp only [s1]; omega) _
  all_goals go_simp

set_option maxHeartbeats 2000000 in
theorem live_any (w : World) (hT : Tabs w) : Calls Tryd.prog 10 #[] w fun e w' => e = .returned (.bool true) ∧ Below w.heap.size w w' := by
  have HT : Hid (Tabs w) := hT
  have C : Hid (∀ (p : Int) (v : Value) (wq : World), Below w.heap.size w wq → DefIn wq v (defL p) → Calls Tryd.prog 7 #[v] wq fun e w' => e = .returned (.tuple #[.int .i64 (checkM (defL p)).1, .int .i64 (checkM (defL p)).2]) ∧ Below wq.heap.size wq w') := fun p v wq hq hd => check_any v _ wq hd (Utf8Tabs_below HT.out hq)
  clear hT HT
  obtain ⟨b0, d1, d0, p0, p1, p2⟩ := liveW_ok w
  have C1 : Hid (Calls Tryd.prog 7 #[.agg #[.string ⟨#[97]⟩, .slice (some ⟨w.heap.size + 1, 0, none⟩) 1 1]] (liveW w) fun e w' => e = .returned (.tuple #[.int .i64 (-1), .int .i64 0]) ∧ Below (liveW w).heap.size (liveW w) w') := by
    have := C.out 1 _ _ b0 d1
    rw [checkL_good] at this
    exact this
  have C2 : Hid (∀ wq, Below (liveW w).heap.size (liveW w) wq → Calls Tryd.prog 7 #[.agg #[.string ⟨#[97]⟩, .slice (some ⟨w.heap.size + 1 + 1 + 1 + 1, 0, none⟩) 1 1]] wq fun e w' => e = .returned (.tuple #[.int .i64 0, .int .i64 115]) ∧ Below w.heap.size w w') := fun wq hq => by
    have hb : Below w.heap.size w wq := b0.trans (hq.mono b0.size)
    have := C.out 0 _ _ hb (d0.below hq)
    rw [checkL_bad] at this
    exact this.mono (fun e w' ⟨he, h2⟩ => ⟨he, hb.trans (h2.mono hb.size)⟩)
  have HP : Hid (∀ wq, Below (liveW w).heap.size (liveW w) wq → wq.cell? ⟨w.heap.size + 1 + 1 + 1 + 1 + 1, 0, none⟩ = some (.string ⟨#[97]⟩) ∧ wq.cell? ⟨w.heap.size + 1 + 1 + 1 + 1 + 1, 1, none⟩ = some (.slice (some ⟨w.heap.size + 1 + 1 + 1 + 1, 0, none⟩) 1 1)) := fun wq hq =>
    ⟨(hq.cell (p := ⟨w.heap.size + 1 + 1 + 1 + 1 + 1, 0, none⟩) p2).trans p0, (hq.cell (p := ⟨w.heap.size + 1 + 1 + 1 + 1 + 1, 1, none⟩) p2).trans p1⟩
  clear C d1 d0 p0 p1 p2 b0
  go_enter Tryd.func10, Tryd.ntmps10
  go_wp2_with fail
  refine C1.out.mono ?_
  rintro e w1 ⟨rfl, hb1⟩
  obtain ⟨q0, q1⟩ := HP.out _ hb1
  have HB1 : Hid (Below (liveW w).heap.size (liveW w) w1) := hb1
  clear C1 hb1
  go_wp2_with fail
  refine (C2.out _ HB1.out).mono ?_
  rintro e w2 ⟨rfl, hb2⟩
  go_wp2_with fail
  go_ret
  exact ⟨rfl, hb2⟩
end Go.Proofs.YtbifnpemfkmckaaDoor
