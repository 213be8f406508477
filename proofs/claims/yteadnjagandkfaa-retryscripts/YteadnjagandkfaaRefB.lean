/- The document's retry in memory; its New, Delay, waits, Begin, Moved, Stop. -/
import Derived.Test.YteadnjagandkfaaRefA
set_option linter.unusedVariables false
set_option maxRecDepth 100000
namespace Go.Proofs.Yteadnjagandkfaa
open Go.RowKit
open WheelMath RetryMath
open Go.Maps (Keyed)

/-- The five cells of one of the document's. -/
def xcell : Option Wt → Nat → Value
  | none, 0 => .bool false
  | none, 4 => .bool false
  | none, _ => .int .i64 0
  | some _, 0 => .bool true
  | some x, 1 => .int .i64 x.tries
  | some x, 2 => .int .i64 x.again
  | some x, 3 => .int .i64 x.late
  | some x, _ => .bool x.told
/-- The document's retry at x: v is its table; who waits. -/
def XR (x : Nat) (v : Value) (dl : Int) (A : Ws) : Res where
  inv w F := w.cell? ⟨x, 0, none⟩ = some v ∧ w.cell? ⟨x, 1, none⟩ = some (.int .i64 dl) ∧ (∀ i k : Nat, i < 61 → k < 5 → w.cell? ⟨x, 2 + i * 5 + k, none⟩ = some (xcell (A (i : Int)) k)) ∧ (∀ j, w.frozen? ⟨x, j, none⟩ = false) ∧ x < w.heap.size ∧ F = fun k => k = x
  lt := by rintro w F ⟨_, _, _, _, h, rfl⟩ k rfl; exact h
  chg := by
    rintro w w' F S ⟨h0, h1, h2, h3, h4, rfl⟩ hc hS
    have k := hc.block x h4 (hS x rfl)
    refine ⟨?_, ?_, fun i j hi hj => ?_, fun j => ?_, Nat.lt_of_lt_of_le h4 hc.size, rfl⟩
    · exact (World.cell?_of_block (w := w) (a := ⟨x, 0, none⟩) k).trans h0
    · exact (World.cell?_of_block (w := w) (a := ⟨x, 1, none⟩) k).trans h1
    · exact (World.cell?_of_block (w := w) (a := ⟨x, 2 + i * 5 + j, none⟩) k).trans (h2 i j hi hj)
    · exact (World.frozen?_of_block (w := w) (a := ⟨x, j, none⟩) k).trans (h3 j)
/-- Five cells, written one behind the other. -/
def put5 (w : World) (x o : Nat) (a b c d e : Value) : World := ((((w.setCell ⟨x, o, none⟩ a).setCell ⟨x, o + 1, none⟩ b).setCell ⟨x, o + 2, none⟩ c).setCell ⟨x, o + 3, none⟩ d).setCell ⟨x, o + 4, none⟩ e
section
variable {B : Nat} {w wr : World} {x : Nat} {v : Value} {dl : Int} {A : Ws} {rs : List Res}
theorem Has.xr (h : Has B w rs wr) (hm : XR x v dl A ∈ rs) : wr.cell? ⟨x, 0, none⟩ = some v ∧ wr.cell? ⟨x, 1, none⟩ = some (.int .i64 dl) ∧ (∀ i k : Nat, i < 61 → k < 5 → wr.cell? ⟨x, 2 + i * 5 + k, none⟩ = some (xcell (A (i : Int)) k)) ∧ (∀ j, wr.frozen? ⟨x, j, none⟩ = false) := by
  obtain ⟨F, ⟨h0, h1, h2, h3, _⟩, _⟩ := h.get hm
  exact ⟨h0, h1, h2, h3⟩
theorem cell_other {w : World} {x o j : Nat} {u : Value} (h : j ≠ o) : (w.setCell ⟨x, o, none⟩ u).cell? ⟨x, j, none⟩ = w.cell? ⟨x, j, none⟩ := World.cell?_setCell_other _ _ _ _ (fun e => h (by injection e with _ e2; exact e2.symm))
theorem chg_one (w : World) (x j : Nat) (u : Value) : Chg (fun k => k = x) w (w.setCell ⟨x, j, none⟩ u) := chg_set w ⟨x, j, none⟩ u
/-- A cell of one that waits, written anew. -/
theorem Has.xset (h : Has B w (XR x v dl A :: rs) wr) (m : Nat) (hm : m < 61) (k0 : Nat) (hk : k0 < 5) (y : Option Wt) (u : Value) (hu : u = xcell y k0) (hA : ∀ k, k < 5 → k ≠ k0 → xcell (A (m : Int)) k = xcell y k) : Has B w (XR x v dl (upd A m y) :: rs) (wr.setCell ⟨x, 2 + m * 5 + k0, none⟩ u) := by
  refine h.turn (new := [XR x v dl (upd A m y)]) ?_
  rintro F ⟨h0, h1, h2, h3, h4, rfl⟩
  refine ⟨_, Hold.one ⟨?_, ?_, fun i k hi hk2 => ?_, fun j => by rw [World.frozen?_setCell]; exact h3 j, by simpa using h4, rfl⟩, chg_one _ _ _ _, fun k hk => Or.inl hk⟩
  · rw [cell_other (by omega)]; exact h0
  · rw [cell_other (by omega)]; exact h1
  · by_cases e : i = m
    · subst e
      rw [upd_same]
      by_cases e2 : k = k0
      · subst e2
        rw [World.cell?_setCell_same _ _ _ (h2 i k hi hk2), hu]
      · rw [cell_other (by omega), h2 i k hi hk2, hA k hk2 e2]
    · rw [upd_other _ _ (by omega), cell_other (by omega)]
      exact h2 i k hi hk2
/-- All five. -/
theorem Has.xput (h : Has B w (XR x v dl A :: rs) wr) (m : Nat) (hm : m < 61) (y : Option Wt) : Has B w (XR x v dl (upd A m y) :: rs) (put5 wr x (2 + m * 5) (xcell y 0) (xcell y 1) (xcell y 2) (xcell y 3) (xcell y 4)) := by
  refine h.turn (new := [XR x v dl (upd A m y)]) ?_
  rintro F ⟨h0, h1, h2, h3, h4, rfl⟩
  have hc : Chg (fun k => k = x) wr (put5 wr x (2 + m * 5) (xcell y 0) (xcell y 1) (xcell y 2) (xcell y 3) (xcell y 4)) := by
    unfold put5
    exact ((((chg_one _ _ _ _).trans (chg_one _ _ _ _) (fun _ _ e => e)).trans (chg_one _ _ _ _) (fun _ _ e => e)).trans (chg_one _ _ _ _) (fun _ _ e => e)).trans (chg_one _ _ _ _) (fun _ _ e => e)
  have hf : ∀ j, (put5 wr x (2 + m * 5) (xcell y 0) (xcell y 1) (xcell y 2) (xcell y 3) (xcell y 4)).frozen? ⟨x, j, none⟩ = false := fun j => by
    unfold put5
    rw [World.frozen?_setCell, World.frozen?_setCell, World.frozen?_setCell, World.frozen?_setCell, World.frozen?_setCell]
    exact h3 j
  have ho : ∀ j, ¬ (2 + m * 5 ≤ j ∧ j < 2 + m * 5 + 5) → (put5 wr x (2 + m * 5) (xcell y 0) (xcell y 1) (xcell y 2) (xcell y 3) (xcell y 4)).cell? ⟨x, j, none⟩ = wr.cell? ⟨x, j, none⟩ := fun j hj => by
    unfold put5
    rw [cell_other (by omega), cell_other (by omega), cell_other (by omega), cell_other (by omega), cell_other (by omega)]
  refine ⟨_, Hold.one ⟨?_, ?_, fun i k hi hk2 => ?_, hf, by have := hc.size; omega, rfl⟩, hc, fun k hk => Or.inl hk⟩
  · rw [ho _ (by omega)]; exact h0
  · rw [ho _ (by omega)]; exact h1
  · by_cases e : i = m
    · subst e
      rw [upd_same]
      unfold put5
      have z : ∀ k, k < 5 → wr.cell? ⟨x, 2 + i * 5 + k, none⟩ = some (xcell (A (i : Int)) k) := fun k hk => h2 i k hi hk
      rcases (show k = 0 ∨ k = 1 ∨ k = 2 ∨ k = 3 ∨ k = 4 by omega) with rfl | rfl | rfl | rfl | rfl
      · rw [cell_other (by omega), cell_other (by omega), cell_other (by omega), cell_other (by omega)]
        exact World.cell?_setCell_same _ _ _ (z 0 (by omega))
      · rw [cell_other (by omega), cell_other (by omega), cell_other (by omega)]
        refine World.cell?_setCell_same _ _ _ (Eq.trans ?_ (z 1 (by omega)))
        rw [cell_other (by omega)]
      · rw [cell_other (by omega), cell_other (by omega)]
        refine World.cell?_setCell_same _ _ _ (Eq.trans ?_ (z 2 (by omega)))
        rw [cell_other (by omega), cell_other (by omega)]
      · rw [cell_other (by omega)]
        refine World.cell?_setCell_same _ _ _ (Eq.trans ?_ (z 3 (by omega)))
        rw [cell_other (by omega), cell_other (by omega), cell_other (by omega)]
      · refine World.cell?_setCell_same _ _ _ (Eq.trans ?_ (z 4 (by omega)))
        rw [cell_other (by omega), cell_other (by omega), cell_other (by omega), cell_other (by omega)]
    · rw [upd_other _ _ (by omega), ho _ (by omega)]
      exact h2 i k hi hk2
end
section
variable {B : Nat} {w wr : World} {rs : List Res}
/-- What the document's Delay answers. -/
theorem refDelay_any (h : Has B w rs wr) (v : Value) (tab : List Int) (hl : tab.length ≤ 140737488355328) (hr : IRow wr v tab) (k : Int) (hk : k ≤ 9223372036854775807) :
    Calls Try.prog 12 #[v, .int .i64 k] wr fun e w' => (may tab = false → e = .returned (.tuple #[.int .i64 0, .int .i64 200])) ∧ (may tab = true → k < 0 → e = .returned (.tuple #[.int .i64 0, .int .i64 1])) ∧ (may tab = true → 0 ≤ k → e = .returned (.tuple #[.int .i64 (dly tab k), .int .i64 0])) ∧ Below wr.heap.size wr w' := by
  have C1 : Hid (Calls Try.prog 32 #[v] wr fun e w' => e = .returned (.bool (may tab)) ∧ Below wr.heap.size wr w') := refMay_any v tab hl _ hr
  have HT : Hid (∀ wq, Below wr.heap.size wr wq → may tab = true → 0 ≤ k → ∃ (m : Nat) (g o c : Nat), v = .slice (some ⟨g, o, none⟩) tab.length c ∧ m < tab.length ∧ (m : Int) = min k ((tab.length : Int) - 1) ∧ wq.cell? ⟨g, o + m, none⟩ = some (.int .i64 (dly tab k))) := fun wq hb hm hk0 => by
    obtain ⟨n, rfl⟩ := Int.eq_ofNat_of_zero_le hk0
    have hr' := irow_below hr hb
    obtain ⟨ao, cap, hv, _⟩ := hr
    subst hv
    obtain ⟨m, g, o, rfl, k1, k2, k3⟩ := tab_cell hr' hm n
    exact ⟨m, g, o, cap, rfl, k1, k2, k3⟩
  have hb8 : may tab = true → tab.length ≤ 8 ∧ 1 ≤ tab.length := fun hm => ⟨(may_bounds hm).2.1, (may_bounds hm).1⟩
  obtain ⟨ao, cap, rfl, _⟩ := hr
  generalize may tab = m at *
  cases m with
  | false =>
    clear HT hb8
    go_enter Try.func12, Try.ntmps12
    go_wp2_with fail
    refine C1.out.mono ?_
    rintro e w1 ⟨rfl, hb⟩
    go_wp2
    go_ret2
    exact ⟨fun _ => rfl, (fun h => by cases h), (fun h => by cases h), hb⟩
  | true =>
    obtain ⟨h8, h1⟩ := hb8 rfl
    by_cases hk0 : k < 0
    · have d1 : decide (k < 0) = true := by simpa using hk0
      clear HT hb8
      go_enter Try.func12, Try.ntmps12
      go_wp2_with fail
      refine C1.out.mono ?_
      rintro e w1 ⟨rfl, hb⟩
      go_wp2
      go_ret2
      exact ⟨(fun h => by cases h), fun _ _ => rfl, (fun _ h => by omega), hb⟩
    · have d1 : decide (k < 0) = false := by simpa using hk0
      clear hb8
      go_enter Try.func12, Try.ntmps12
      go_wp2_with fail
      refine C1.out.mono ?_
      rintro e w1 ⟨rfl, hb⟩
      obtain ⟨m, g, o, c, e1, hml, hmn, c0⟩ := HT.out w1 hb (by trivial) (by omega)
      cases e1
      have hmn2 : min k ((tab.length : Int) - 1) = (m : Int) := hmn.symm
      have hwl : IntKind.i64.wrap ((tab.length : Int) - 1) = (tab.length : Int) - 1 := by rw [IntKind.wrap_i64] <;> omega
      have hmI : (m : Int) < (tab.length : Int) := by omega
      clear HT C1 hmn
      go_wp2
      go_ret2
      exact ⟨(fun h => by cases h), (fun _ h => by omega), fun _ _ => rfl, hb⟩
end
end Go.Proofs.Yteadnjagandkfaa
