/- The form of a note, kinds 1 and 2: regions that draw their order. -/
import Derived.Test.YtbgankldnjeohaaFormW
import Derived.Deep.RegionHeld3
set_option linter.unusedVariables false
set_option linter.unusedSimpArgs false
set_option maxRecDepth 100000
namespace Go.Proofs.Ytbgankldnjeohaa
open Go.RowKit

/-- What a call must leave: the world below w, and some cells of the block at w's end. -/
def Left (w : World) (cs : List (Nat × Value)) (w1 : World) : Prop := w.heap.size < w1.heap.size ∧ Below w.heap.size w w1 ∧ ∀ x ∈ cs, w1.cell? ⟨w.heap.size, x.1, none⟩ = some x.2
theorem Left.call {w w1 w2 : World} {cs : List (Nat × Value)} (h : Left w cs w1) (hb : Below w1.heap.size w1 w2) : Left w cs w2 := by
  obtain ⟨h1, h2, h3⟩ := h
  refine ⟨by have := hb.size; omega, h2.trans (hb.mono h2.size), fun x hx => ?_⟩
  rw [hb.cell (by show w.heap.size < _; exact h1)]
  exact h3 x hx
theorem Left.draw {w w1 : World} {cs : List (Nat × Value)} (h : Left w cs w1) : Left w cs w1.drew := h.call (by go_grown)
theorem Left.alloc {w w1 : World} {cs : List (Nat × Value)} (h : Left w cs w1) (o : Obj) : Left w cs (w1.alloc o) :=
  h.call ((Below.refl _ _).alloc (Nat.le_refl _) o)
theorem Left.first (w : World) (vs : Array Value) (ty : TypeId) (cs : List (Nat × Value)) (h : ∀ x ∈ cs, vs[x.1]? = some x.2) : Left w cs (w.alloc (.cells vs ty)) := by
  refine ⟨by simp, (Below.refl _ _).alloc (Nat.le_refl _) _, fun x hx => ?_⟩
  simp [h x hx]
theorem new_cells {w1 : World} {cs : Array Value} {ty : TypeId} {g : Nat} (hg : g = w1.heap.size) : ∀ j x, cs[j]? = some x → (w1.alloc (.cells cs ty)).drew.cell? ⟨g, j, none⟩ = some x := fun j x h => by subst hg; simp [h]
set_option maxHeartbeats 2000000 in
theorem form1 (i s t p c : Int) (K M : ByteArray) (v : Int) (X : ByteArray) (w : World) (a b : ByteArray) (ha : a.size ≤ 64) (hb : b.size ≤ 4000)
    (C1 : Hid (∀ (w1 : World) (g : Nat), (∀ j x, (#[.int .i64 1] : Array Value)[j]? = some x → w1.cell? ⟨g, j, none⟩ = some x) → g < w1.heap.size → Hid (Left w [(0, .int .i64 1), (9, .string X)] w1) → Calls Try.prog 63 #[.slice (some ⟨g, 0, none⟩) 1 1] w1 fun e w' => e = .returned (.string a) ∧ w'.cell? ⟨w.heap.size, 0, none⟩ = some (.int .i64 1) ∧ w'.cell? ⟨w.heap.size, 9, none⟩ = some (.string X) ∧ Hid (Left w [(0, .int .i64 1), (9, .string X)] w')))
    (C2 : Hid (∀ (w1 : World), Hid (Left w [(0, .int .i64 1), (9, .string X)] w1) → Calls Try.prog 92 #[.string X] w1 fun e w' => e = .returned (.string b) ∧ w'.cell? ⟨w.heap.size, 0, none⟩ = some (.int .i64 1) ∧ w'.cell? ⟨w.heap.size, 9, none⟩ = some (.string X) ∧ Hid (Left w [(0, .int .i64 1), (9, .string X)] w'))) :
    Calls Try.prog 90 #[.agg #[.int .i64 1, .int .i64 i, .int .i64 s, .int .i64 t, .int .i64 p, .int .i64 c, .string K, .string M, .int .i64 v, .string X]] w fun e w' => e = .returned (.string (⟨#[78]⟩ ++ a ++ b)) ∧ Below w.heap.size w w' := by
  have p0 : ¬ 9223372036854775807 < (ByteArray.mk #[78]).size + a.size := by simp only [ByteArray.size_append, show (ByteArray.mk #[78]).size = 1 from rfl]; omega
  have r0 : ¬ 9223372036854775807 < 1 + a.size := by omega
  have p1 : ¬ 9223372036854775807 < ((ByteArray.mk #[78]) ++ a).size + b.size := by simp only [ByteArray.size_append, show (ByteArray.mk #[78]).size = 1 from rfl]; omega
  have r1 : ¬ 9223372036854775807 < 1 + a.size + b.size := by omega
  have HF : Hid (Left w [(0, .int .i64 1), (9, .string X)] (w.alloc (.cells #[.int .i64 1, .int .i64 i, .int .i64 s, .int .i64 t, .int .i64 p, .int .i64 c, .string K, .string M, .int .i64 v, .string X] 56))) := Left.first _ _ _ _ (by simp)
  go_enter Try.func90, Try.ntmps90
  go_wp2_with fail
  go_region_held3 (fun w' => w'.cell? ⟨w.heap.size, 0, none⟩ = some (.int .i64 1) ∧ w'.cell? ⟨w.heap.size, 9, none⟩ = some (.string X)) (go_keep) (first | (go_at_call 63; refine (C1.out _ _ (new_cells (by simp)) (by simp) (HF.out.alloc _).draw).mono ?_; rintro e w1 ⟨rfl, m0, m1, HB1⟩) | (go_at_call 92; refine (C2.out _ HB1).mono ?_; rintro e w2 ⟨rfl, m2, m3, HB2⟩))
  all_goals go_wp2
  all_goals go_ret
  all_goals exact ⟨rfl, HB2.out.2.1⟩
end Go.Proofs.Ytbgankldnjeohaa
