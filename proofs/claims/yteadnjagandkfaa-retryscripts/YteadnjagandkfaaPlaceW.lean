/- The walks of placeOf, its closure, and slices.IndexFunc. -/
import Derived.Test.YteadnjagandkfaaWBase
set_option linter.unusedVariables false
set_option maxRecDepth 100000
namespace Go.Proofs.Yteadnjagandkfaa
open Go.RowKit
open WheelMath

theorem isId_yes (i a c : Int) (cb : Nat) (w : World) (hc : w.cell? ⟨cb, 0, none⟩ = some (.int .i64 c)) (h : i = c) :
    Calls Try.prog 48 #[.agg #[.int .i64 i, .int .i64 a], .pointer (some ⟨cb, 0, none⟩)] w fun e w' => e = .returned (.bool true) ∧ Below w.heap.size w w' := by
  subst h
  have hl := block_lt_of_cell hc
  simp only at hl
  go_enter Try.func48, Try.ntmps48
  go_wp2
  go_ret
  exact ⟨by simp, (Below.refl _ _).alloc (Nat.le_refl _) _⟩
theorem isId_no (i a c : Int) (cb : Nat) (w : World) (hc : w.cell? ⟨cb, 0, none⟩ = some (.int .i64 c)) (h : ¬ i = c) :
    Calls Try.prog 48 #[.agg #[.int .i64 i, .int .i64 a], .pointer (some ⟨cb, 0, none⟩)] w fun e w' => e = .returned (.bool false) ∧ Below w.heap.size w w' := by
  have hl := block_lt_of_cell hc
  simp only at hl
  have h2 : decide (i = c) = false := by simpa using h
  have h3 : (i == c) = false := by simpa using h
  go_enter Try.func48, Try.ntmps48
  go_wp2
  go_ret
  exact ⟨by simp, (Below.refl _ _).alloc (Nat.le_refl _) _⟩

/-- Where it is, as a number; -1: nowhere. -/
def placeI (l : List T) (id : Int) : Int := match place l id with
  | some k => (k : Int)
  | none => -1
theorem placeI_some {l : List T} {id : Int} {k : Nat} (h : place l id = some k) : placeI l id = (k : Int) := by unfold placeI; rw [h]
theorem placeI_none {l : List T} {id : Int} (h : place l id = none) : placeI l id = -1 := by unfold placeI; rw [h]

/-- The cells of a row of timers. -/
theorem row_cells {w : World} {B e : Nat} {v : Value} {l : List T} (h : w.ownsRow B e 2 v l.length (tcells l)) : ∃ ao cap, v = .slice ao l.length cap ∧ l.length ≤ cap ∧ (ao = none → cap = 0) ∧
    ∀ j, (hj : j < l.length) → ∃ g, ao = some ⟨g, 0, none⟩ ∧ g < w.heap.size ∧ w.cell? ⟨g, j * 2, none⟩ = some (.int .i64 l[j].1) ∧ w.cell? ⟨g, j * 2 + 1, none⟩ = some (.int .i64 l[j].2) ∧ w.frozen? ⟨g, j * 2 + 1, none⟩ = false := by
  obtain ⟨ao, cap, rfl, h1, h2, h3⟩ := own_form h
  refine ⟨ao, cap, rfl, h1, fun e => (h2 e).2, fun j hj => ?_⟩
  cases ao with
  | none => have := (h2 rfl).1; omega
  | some p =>
    obtain ⟨g, rfl, _, k2, k3, k4, _⟩ := h3 p rfl
    obtain ⟨t1, t2⟩ := tcells_at l j hj
    exact ⟨g, rfl, k2, by rw [k3 _ (by omega)]; exact t1, by rw [k3 _ (by omega)]; exact t2, k4 _⟩

set_option maxHeartbeats 2000000 in
theorem index_any (v : Value) (l : List T) (hl : l.length ≤ 200) (id : Int) (cb : Nat) (w : World) (B e0 : Nat) (hown : w.ownsRow B e0 2 v l.length (tcells l)) (hc : w.cell? ⟨cb, 0, none⟩ = some (.int .i64 id)) :
    Calls Try.prog 47 #[v, .func (.func 48) #[] #[.pointer (some ⟨cb, 0, none⟩)]] w fun e w' => e = .returned (.int .i64 (placeI l id)) ∧ Below w.heap.size w w' := by
  obtain ⟨ao, cap, rfl, hcap, _, hrow⟩ := row_cells hown
  have HR : Hid (∀ j, (hj : j < l.length) → ∃ g, ao = some ⟨g, 0, none⟩ ∧ g < w.heap.size ∧ w.cell? ⟨g, j * 2, none⟩ = some (.int .i64 l[j].1) ∧ w.cell? ⟨g, j * 2 + 1, none⟩ = some (.int .i64 l[j].2) ∧ w.frozen? ⟨g, j * 2 + 1, none⟩ = false) := hrow
  have HC : Hid (w.cell? ⟨cb, 0, none⟩ = some (.int .i64 id)) := hc
  have hcl := block_lt_of_cell hc
  simp only at hcl
  clear hrow hc hown
  go_enter Try.func47, Try.ntmps47
  go_wp2
  go_loopw [5, 8] (fun _ i wr => ∃ k : Nat, k ≤ l.length ∧ i = .int .i64 (k : Int) ∧ Hid (Below w.heap.size w wr) ∧ Hid (∀ j, (h : j < l.length) → j < k → l[j].1 ≠ id)) (fun _ i _ => l.length - (intOf i).toNat)
  case atStart => exact ⟨0, Nat.zero_le _, rfl, Below.refl _ _, fun j _ hj => absurd hj (Nat.not_lt_zero _)⟩
  case round =>
    obtain ⟨k, hk, rfl, HB, HN⟩ := hrel
    by_cases hlt : k < l.length
    · obtain ⟨g, rfl, hg, c1, c2, _⟩ := HR.out k hlt
      have d1 : wr.cell? ⟨g, k * 2, none⟩ = some (.int .i64 l[k].1) := (HB.out.cell (p := ⟨g, k * 2, none⟩) hg).trans c1
      have d2 : wr.cell? ⟨g, k * 2 + 1, none⟩ = some (.int .i64 l[k].2) := (HB.out.cell (p := ⟨g, k * 2 + 1, none⟩) hg).trans c2
      have d3 : wr.cell? ⟨cb, 0, none⟩ = some (.int .i64 id) := (HB.out.cell (p := ⟨cb, 0, none⟩) hcl).trans HC.out
      have i1 : (k : Int) < (l.length : Int) := by omega
      by_cases hq : l[k].1 = id
      · have HE : Hid (placeI l id = (k : Int)) := placeI_some (place_hit hlt hq HN.out)
        have C : Hid (Calls Try.prog 48 #[.agg #[.int .i64 l[k].1, .int .i64 l[k].2], .pointer (some ⟨cb, 0, none⟩)] wr fun e w' => e = .returned (.bool true) ∧ Below wr.heap.size wr w') := isId_yes _ _ _ _ _ d3 hq
        clear hq c1 c2 HN d3
        generalize l[k].1 = a1 at *
        generalize l[k].2 = a2 at *
        go_wp2_with fail
        refine C.out.mono ?_
        rintro e w1 ⟨rfl, hb1⟩
        have HB1 : Hid (Below w.heap.size w w1) := HB.out.trans (hb1.mono HB.out.size)
        clear C hb1 HB d1 d2
        go_wp2
        go_ret
        rw [HE.out]
        exact ⟨rfl, HB1.out⟩
      · have HN' : Hid (∀ j, (h : j < l.length) → j < k + 1 → l[j].1 ≠ id) := fun j h hj => by
          by_cases e : j = k
          · subst e; exact hq
          · exact HN.out j h (by omega)
        have C : Hid (Calls Try.prog 48 #[.agg #[.int .i64 l[k].1, .int .i64 l[k].2], .pointer (some ⟨cb, 0, none⟩)] wr fun e w' => e = .returned (.bool false) ∧ Below wr.heap.size wr w') := isId_no _ _ _ _ _ d3 hq
        clear hq c1 c2 HN d3
        generalize l[k].1 = a1 at *
        generalize l[k].2 = a2 at *
        go_wp2_with fail
        refine C.out.mono ?_
        rintro e w1 ⟨rfl, hb1⟩
        have HB1 : Hid (Below w.heap.size w w1) := HB.out.trans (hb1.mono HB.out.size)
        clear C hb1 HB d1 d2
        go_wp2
        exact ⟨⟨k + 1, by omega, by go_num, HB1, HN'⟩, by simp [intOf]; omega⟩
    · obtain rfl : k = l.length := by omega
      have HE : Hid (placeI l id = -1) := placeI_none (place_miss fun j hj => HN.out j hj hj)
      clear HN
      go_wp2
      go_ret
      rw [HE.out]
      exact ⟨rfl, HB.out⟩

theorem place_any (w : World) (b : Nat) (v : Value) (l : List T) (hl : l.length ≤ 200) (h : PW w b v l) (id : Int) :
    Calls Try.prog 42 #[.pointer (some ⟨b, 0, none⟩), .int .i64 id] w fun e w' => e = .returned (.int .i64 (placeI l id)) ∧ Below w.heap.size w w' := by
  have hb0 : Below w.heap.size w (w.alloc (.cells #[.int .i64 id] 3)) := (Below.refl _ _).alloc (Nat.le_refl _) _
  have h' := pw_below h hb0
  have C : Hid (Calls Try.prog 47 #[v, .func (.func 48) #[] #[.pointer (some ⟨w.heap.size, 0, none⟩)]] (w.alloc (.cells #[.int .i64 id] 3)) fun e w' => e = .returned (.int .i64 (placeI l id)) ∧ Below (w.alloc (.cells #[.int .i64 id] 3)).heap.size (w.alloc (.cells #[.int .i64 id] 3)) w') :=
    index_any v l hl id w.heap.size _ 0 _ h'.row (by simp)
  have c1 := h.cell
  have hlt := h.lt
  obtain ⟨ao, cap, hv, _⟩ := own_form h.row
  rw [hv] at C c1
  clear h h' hv
  go_enter Try.func42, Try.ntmps42
  go_wp2_with fail
  refine C.out.mono ?_
  rintro e w1 ⟨rfl, hb1⟩
  have HB1 : Hid (Below w.heap.size w w1) := hb0.trans (hb1.mono hb0.size)
  clear C hb1 hb0
  go_wp2
  go_ret
  exact ⟨rfl, HB1.out⟩
end Go.Proofs.Yteadnjagandkfaa
