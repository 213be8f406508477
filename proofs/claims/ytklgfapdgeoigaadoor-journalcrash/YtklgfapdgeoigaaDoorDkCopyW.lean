/- The walk of the program's Copy. -/
import Derived.Test.YtklgfapdgeoigaaDoorDkPutW
import Derived.Deep.RegionHeld3
set_option linter.unusedVariables false
set_option maxRecDepth 100000
namespace Go.Proofs.YtklgfapdgeoigaaDoor.Dk
open Go.RowKit
open DiskMath

/-- The first k files of a copy. -/
def cpd (d : DS) (k : Nat) : DS := ⟨fun j => if j < k then d.F j else [], fun j => if j < k then d.S j else 0, d.R⟩
theorem cpd_step (d : DS) (k : Nat) : (⟨upd (cpd d k).F k (d.F k), upd (cpd d k).S k (d.S k), (cpd d k).R⟩ : DS) = cpd d (k + 1) := by
  unfold cpd
  congr 1
  · funext j
    unfold upd
    by_cases e : j = k
    · subst e; simp
    · simp only [e, if_false]
      by_cases h : j < k
      · rw [if_pos h, if_pos (by omega)]
      · rw [if_neg h, if_neg (by omega)]
  · funext j
    unfold upd
    by_cases e : j = k
    · subst e; simp
    · simp only [e, if_false]
      by_cases h : j < k
      · rw [if_pos h, if_pos (by omega)]
      · rw [if_neg h, if_neg (by omega)]
def CInv (w : World) (d : DS) (k : Nat) (wr : World) : Prop := Below w.heap.size w wr ∧ ∃ V', PDisk wr w.heap.size V' (cpd d k) ∧ ∀ j, fp w.heap.size V' j → w.heap.size ≤ j
theorem cinv_start (w : World) (d : DS) : CInv w d 0 (w.alloc (.cells #[.slice none 0 0, .int .i64 0, .slice none 0 0, .int .i64 0, .slice none 0 0, .int .i64 0, .slice none 0 0, .int .i64 0, .int .i64 (d.R : Int)] 104)) := by
  refine ⟨(Below.refl _ _).alloc (Nat.le_refl _) _, fun _ => .slice none 0 0, ?_, ?_⟩
  · have := pdisk_new w d.R
    have e : new d.R = cpd d 0 := by unfold new cpd; simp
    rw [e] at this
    exact this
  · rintro j (rfl | ⟨i, hi, hj⟩)
    · exact Nat.le_refl _
    · cases hj
theorem cinv_end {w wr : World} {d : DS} (h : CInv w d 4 wr) : Below w.heap.size w wr ∧ ∃ V', PDisk wr w.heap.size V' d ∧ ∀ j, fp w.heap.size V' j → w.heap.size ≤ j := by
  obtain ⟨h1, V', h2, h3⟩ := h
  refine ⟨h1, V', ⟨h2.lt, h2.bytes, fun i hi => ?_, h2.room, h2.free, fun i hi => ?_, h2.apart, h2.off⟩, h3⟩
  · have := h2.safe i hi
    simp only [cpd, if_pos hi] at this
    exact this
  · have := h2.rows i hi
    simp only [cpd, if_pos hi] at this
    exact this
/-- One file of the copy. -/
theorem copy_one (w wr : World) (b : Nat) (V : Nat → Value) (d : DS) (hP : PDisk w b V d) (hok : Ok d) (k : Nat) (hk : k < 4) (h : CInv w d k wr) : ∃ ao cap, V k = .slice ao (d.F k).length cap ∧
    Calls Tryd.prog 52 #[.slice ao (d.F k).length cap, .int .i64 ((d.F k).length : Int)] (wr.alloc (.cells #[V k, .int .i64 (d.S k : Int)] 101)).drew fun e w2 => ∃ ao' cap' x, e = .returned (.slice ao' (d.F k).length cap') ∧
      w2.cell? ⟨wr.heap.size, 0, none⟩ = some (.slice ao (d.F k).length cap) ∧ w2.cell? ⟨wr.heap.size, 1, none⟩ = some (.int .i64 (d.S k : Int)) ∧
      w2.cell? ⟨w.heap.size, k * 2, none⟩ = some x ∧ w2.frozen? ⟨w.heap.size, k * 2, none⟩ = false ∧ w2.cell? ⟨w.heap.size, k * 2 + 1, none⟩ = some (.int .i64 0) ∧ w2.frozen? ⟨w.heap.size, k * 2 + 1, none⟩ = false ∧
      Hid (CInv w d (k + 1) ((w2.setCell ⟨w.heap.size, k * 2, none⟩ (.slice ao' (d.F k).length cap')).setCell ⟨w.heap.size, k * 2 + 1, none⟩ (.int .i64 (d.S k : Int)))) := by
  obtain ⟨h1, V', h2, h3⟩ := h
  have hr := hP.rows k hk
  obtain ⟨ao, cap, hv, _, _⟩ := own_row hr
  have hle := file_le d k hk
  have hrm := hok.room
  have hmo := hok.most
  refine ⟨ao, cap, hv, ?_⟩
  obtain ⟨wa, hwa⟩ : ∃ wa, wa = (wr.alloc (.cells #[V k, .int .i64 (d.S k : Int)] 101)).drew := ⟨_, rfl⟩
  rw [← hwa]
  have hba : Below wr.heap.size wr wa := by rw [hwa]; exact ((Below.refl _ _).alloc (Nat.le_refl _) _).drew
  have hsz : wa.heap.size = wr.heap.size + 1 := by rw [hwa]; simp
  have ca0 : wa.cell? ⟨wr.heap.size, 0, none⟩ = some (.slice ao (d.F k).length cap) := by rw [hwa, hv]; simp
  have ca1 : wa.cell? ⟨wr.heap.size, 1, none⟩ = some (.int .i64 (d.S k : Int)) := by rw [hwa]; simp
  have hra : wa.ownsRow 0 5 1 (V k) (d.F k).length (cells8 (d.F k)) := own_below hr (h1.trans (hba.mono h1.size))
  rw [hv] at hra
  have hcall := first_any wa _ (d.F k) (d.F k).length (Nat.le_refl _) (by omega) hra
  rw [List.take_length] at hcall
  refine hcall.mono ?_
  rintro e w2 ⟨v', rfl, k2, k3⟩
  have hP2 : PDisk w2 w.heap.size V' (cpd d k) := pdisk_below (pdisk_below h2 hba) k3
  obtain ⟨ao', cap', rfl, _, _⟩ := own_row k2
  have hb2 : Below w.heap.size w w2 := (h1.trans (hba.mono h1.size)).trans (k3.mono (by have := h1.size; omega))
  have s2 := hP2.safe k hk
  have e0 : (cpd d k).S k = 0 := by simp [cpd]
  rw [e0] at s2
  refine ⟨ao', cap', V' k, rfl, ?_, ?_, hP2.bytes k hk, hP2.free _, s2, hP2.free _, ?_⟩
  · rw [k3.cell (p := ⟨wr.heap.size, 0, none⟩) (by show wr.heap.size < _; omega)]; exact ca0
  · rw [k3.cell (p := ⟨wr.heap.size, 1, none⟩) (by show wr.heap.size < _; omega)]; exact ca1
  · have k2' : wa.heap.size ≤ wa.heap.size := Nat.le_refl _
    -- the row is new: it lies above all that the copy has
    obtain ⟨p1, p2, p3⟩ := pdisk_row (w' := w2) (pdisk_below h2 hba) k hk ⟨k3.os, k3.tape, k3.output, k3.size, fun j hj _ => k3.block j hj⟩ _ _ (own_zero k2) (fun g hg => Or.inr (k2.lt g hg).1)
    have p4 := pdisk_safe p1 k (d.S k) hk
    have e1 := cpd_step d k
    show CInv w d (k + 1) _
    refine ⟨?_, _, by rw [← e1]; exact p4, fun j hj => ?_⟩
    · refine ⟨hb2.os, hb2.tape, hb2.output, by simpa using hb2.size, fun j hj => ?_⟩
      rw [Below.heap_setCell _ _ _ j (by show j ≠ w.heap.size; omega), Below.heap_setCell _ _ _ j (by show j ≠ w.heap.size; omega)]
      exact hb2.block j hj
    · rcases p3 j hj with h | h
      · exact h3 j h
      · have := h1.size; omega
end Go.Proofs.YtklgfapdgeoigaaDoor.Dk