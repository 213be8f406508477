/- The program's wheel in memory, as a thing that is held. -/
import Derived.Test.YteadnjagandkfaaRes
import Derived.Test.YteadnjagandkfaaWMath
set_option linter.unusedVariables false
set_option maxRecDepth 100000
namespace Go.Proofs.Yteadnjagandkfaa
open Go.RowKit
open WheelMath

theorem infoI : (Try.prog.info? 3).map (fun i => (i.zero, i.size, i.bytes)) = some (some (.int .i64 0), 1, 8) := by kernel_rfl
theorem infoT : (Try.prog.info? 70).map (fun i => (i.zero, i.size, i.bytes)) = some (some (.agg #[.int .i64 0, .int .i64 0]), 2, 16) := by kernel_rfl
/-- Timers as cells. -/
def tcells : List T → List Value
  | [] => []
  | t :: l => .int .i64 t.1 :: .int .i64 t.2 :: tcells l
theorem tcells_len (l : List T) : (tcells l).length = l.length * 2 := by induction l with
  | nil => rfl
  | cons t l ih => simp only [tcells, List.length_cons, ih]; omega
theorem tcells_at : ∀ (l : List T) (j : Nat) (h : j < l.length), (tcells l)[j * 2]? = some (.int .i64 l[j].1) ∧ (tcells l)[j * 2 + 1]? = some (.int .i64 l[j].2)
  | t :: l, 0, _ => ⟨rfl, rfl⟩
  | t :: l, j + 1, h => by
    have := tcells_at l j (by simpa using h)
    rw [show (j + 1) * 2 = j * 2 + 1 + 1 by omega]
    exact this
theorem tcells_append (l m : List T) : tcells (l ++ m) = tcells l ++ tcells m := by induction l with
  | nil => rfl
  | cons t l ih => simp [tcells, ih]
theorem tcells_take : ∀ (l : List T) (k : Nat), (tcells l).take (k * 2) = tcells (l.take k)
  | [], k => by simp [tcells]
  | t :: l, 0 => by simp [tcells]
  | t :: l, k + 1 => by rw [show (k + 1) * 2 = k * 2 + 1 + 1 by omega]; simp [tcells, tcells_take l k]
theorem tcells_drop : ∀ (l : List T) (k : Nat), (tcells l).drop (k * 2) = tcells (l.drop k)
  | [], k => by simp [tcells]
  | t :: l, 0 => by simp
  | t :: l, k + 1 => by rw [show (k + 1) * 2 = k * 2 + 1 + 1 by omega]; simp [tcells, tcells_drop l k]
theorem tcells_one (l : List T) : ∀ u ∈ tcells l, u.oneCell' = true := by induction l with
  | nil => intro u hu; cases hu
  | cons t l ih =>
    intro u hu
    simp only [tcells, List.mem_cons] at hu
    rcases hu with rfl | rfl | hu
    · rfl
    · rfl
    · exact ih u hu
theorem tcells_set : ∀ (l : List T) (k : Nat) (h : k < l.length) (m : Int), (tcells l).set (k * 2 + 1) (.int .i64 m) = tcells (l.set k (l[k].1, m))
  | t :: l, 0, _, m => rfl
  | t :: l, k + 1, h, m => by
    rw [show (k + 1) * 2 + 1 = k * 2 + 1 + 1 + 1 by omega]
    have := tcells_set l k (by simpa using h) m
    simp [tcells, this]
/-- The program's wheel at block b: v is where its timers lie. -/
structure PW (w : World) (b : Nat) (v : Value) (l : List T) : Prop where
  cell : w.cell? ⟨b, 0, none⟩ = some v
  free : w.frozen? ⟨b, 0, none⟩ = false
  row : w.ownsRow 0 70 2 v l.length (tcells l)
  off : v.ownBlock ≠ some b
def fpw (b : Nat) (v : Value) : Nat → Prop := fun k => k = b ∨ v.ownBlock = some k
theorem PW.lt {w : World} {b : Nat} {v : Value} {l : List T} (h : PW w b v l) : b < w.heap.size := block_lt_of_cell h.cell
theorem fpw_lt {w : World} {b : Nat} {v : Value} {l : List T} (h : PW w b v l) : ∀ k, fpw b v k → k < w.heap.size := by
  rintro k (rfl | hk)
  · exact h.lt
  · exact (h.row.lt k hk).2
theorem pw_chg {S : Nat → Prop} {w w' : World} {b : Nat} {v : Value} {l : List T} (h : PW w b v l) (hc : Chg S w w') (hS : ∀ k, fpw b v k → ¬ S k) : PW w' b v l := by
  have hb : w'.heap[b]? = w.heap[b]? := hc.block b h.lt (hS b (Or.inl rfl))
  exact ⟨(World.cell?_of_block (w := w) (a := ⟨b, 0, none⟩) hb).trans h.cell, (World.frozen?_of_block (w := w) (a := ⟨b, 0, none⟩) hb).trans h.free, own_chg h.row hc (fun g hg => hS g (Or.inr hg)), h.off⟩
theorem pw_below {w w' : World} {b : Nat} {v : Value} {l : List T} (h : PW w b v l) (hb : Below w.heap.size w w') : PW w' b v l :=
  pw_chg (S := fun k => w.heap.size ≤ k) h ⟨hb.os, hb.tape, hb.output, hb.size, fun k hk _ => hb.block k hk⟩ (fun k hk => by have := fpw_lt h k hk; omega)
/-- Behind a call that writes: the wheel as it is now, and that nothing else changed. -/
def WOk (w : World) (b : Nat) (v : Value) (r' : List T) (w' : World) : Prop :=
  ∃ v' l', PW w' b v' l' ∧ l'.Perm r' ∧ Chg (fpw b v) w w' ∧ ∀ k, fpw b v' k → fpw b v k ∨ w.heap.size ≤ k
end Go.Proofs.Yteadnjagandkfaa
