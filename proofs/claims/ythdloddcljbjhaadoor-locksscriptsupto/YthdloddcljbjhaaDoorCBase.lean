/- A definition as it lies in memory, read only: rows of texts, of numbers, of steps. -/
import Derived.Test.YthdloddcljbjhaaDoorRes
import Derived.Test.YthdloddcljbjhaaDoorNmComp
import Derived.Test.YthdloddcljbjhaaDoorCMath
set_option linter.unusedVariables false
set_option maxRecDepth 100000
namespace Go.Proofs.YthdloddcljbjhaaDoor
open Go.RowKit CheckMath
open Go.Proofs.YthdloddcljbjhaaDoor.Nm

def KRow (w : World) (v : Value) (xs : List ByteArray) : Prop := ∃ ao cap, v = .slice ao xs.length cap ∧ xs.length ≤ cap ∧ (ao = none → cap = 0) ∧ (xs.length ≤ 140737488355328 ∧ ∀ x, x ∈ xs → x.size ≤ 140737488355328) ∧
  ∀ j, j < xs.length → ∃ g o, ao = some ⟨g, o, none⟩ ∧ g < w.heap.size ∧ w.cell? ⟨g, o + j, none⟩ = some (.string (keyAt xs j))
def IRow (w : World) (v : Value) (xs : List Int) : Prop := ∃ ao cap, v = .slice ao xs.length cap ∧ xs.length ≤ cap ∧ (ao = none → cap = 0) ∧ xs.length ≤ 140737488355328 ∧
  ∀ j, j < xs.length → ∃ g o, ao = some ⟨g, o, none⟩ ∧ g < w.heap.size ∧ w.cell? ⟨g, o + j, none⟩ = some (.int .i64 (needAt xs j))
def StepIn (w : World) (g p : Nat) (s : StepD) : Prop := w.cell? ⟨g, p, none⟩ = some (.string s.name) ∧ w.cell? ⟨g, p + 1, none⟩ = some (.int .i64 s.kind) ∧ w.cell? ⟨g, p + 2, none⟩ = some (.int .i64 s.part) ∧
  ∃ kv nv, w.cell? ⟨g, p + 3, none⟩ = some kv ∧ w.cell? ⟨g, p + 4, none⟩ = some nv ∧ KRow w kv s.keys ∧ IRow w nv s.needs
def DRow (w : World) (v : Value) (ss : List StepD) : Prop := ∃ ao cap, v = .slice ao ss.length cap ∧ ss.length ≤ cap ∧ (ao = none → cap = 0) ∧ ss.length ≤ 140737488355328 ∧
  ∀ j, j < ss.length → ∃ g o, ao = some ⟨g, o, none⟩ ∧ g < w.heap.size ∧ StepIn w g (o + j * 5) (nth ss j)
theorem KRow.below {w w' : World} {v : Value} {xs : List ByteArray} (h : KRow w v xs) (hb : Below w.heap.size w w') : KRow w' v xs := by
  obtain ⟨ao, cap, h1, h2, h3, h4, h5⟩ := h
  refine ⟨ao, cap, h1, h2, h3, h4, fun j hj => ?_⟩
  obtain ⟨g, o, k1, k2, k3⟩ := h5 j hj
  exact ⟨g, o, k1, Nat.lt_of_lt_of_le k2 hb.size, (hb.cell (p := ⟨g, o + j, none⟩) k2).trans k3⟩
theorem IRow.below {w w' : World} {v : Value} {xs : List Int} (h : IRow w v xs) (hb : Below w.heap.size w w') : IRow w' v xs := by
  obtain ⟨ao, cap, h1, h2, h3, h4, h5⟩ := h
  refine ⟨ao, cap, h1, h2, h3, h4, fun j hj => ?_⟩
  obtain ⟨g, o, k1, k2, k3⟩ := h5 j hj
  exact ⟨g, o, k1, Nat.lt_of_lt_of_le k2 hb.size, (hb.cell (p := ⟨g, o + j, none⟩) k2).trans k3⟩
theorem StepIn.below {w w' : World} {g p : Nat} {s : StepD} (hg : g < w.heap.size) (h : StepIn w g p s) (hb : Below w.heap.size w w') : StepIn w' g p s := by
  obtain ⟨h0, h1, h2, kv, nv, h3, h4, h5, h6⟩ := h
  exact ⟨(hb.cell (p := ⟨g, p, none⟩) hg).trans h0, (hb.cell (p := ⟨g, p + 1, none⟩) hg).trans h1, (hb.cell (p := ⟨g, p + 2, none⟩) hg).trans h2, kv, nv, (hb.cell (p := ⟨g, p + 3, none⟩) hg).trans h3, (hb.cell (p := ⟨g, p + 4, none⟩) hg).trans h4, h5.below hb, h6.below hb⟩
theorem DRow.below {w w' : World} {v : Value} {ss : List StepD} (h : DRow w v ss) (hb : Below w.heap.size w w') : DRow w' v ss := by
  obtain ⟨ao, cap, h1, h2, h3, h4, h5⟩ := h
  refine ⟨ao, cap, h1, h2, h3, h4, fun j hj => ?_⟩
  obtain ⟨g, o, k1, k2, k3⟩ := h5 j hj
  exact ⟨g, o, k1, Nat.lt_of_lt_of_le k2 hb.size, k3.below k2 hb⟩
theorem KRow.slice {w : World} {v : Value} {xs : List ByteArray} (h : KRow w v xs) : ∃ a c, v = .slice a xs.length c := by
  obtain ⟨ao, cap, h1, _⟩ := h; exact ⟨ao, cap, h1⟩
theorem IRow.slice {w : World} {v : Value} {xs : List Int} (h : IRow w v xs) : ∃ a c, v = .slice a xs.length c := by
  obtain ⟨ao, cap, h1, _⟩ := h; exact ⟨ao, cap, h1⟩
theorem DRow.slice {w : World} {v : Value} {xs : List StepD} (h : DRow w v xs) : ∃ a c, v = .slice a xs.length c ∧ xs.length ≤ c := by
  obtain ⟨ao, cap, h1, h2, _⟩ := h; exact ⟨ao, cap, h1, h2⟩
theorem txt_ne {a b : ByteArray} (h : ¬ a = b) : (a.toList == b.toList) = false := by
  rw [beq_eq_false_iff_ne]
  intro e
  exact h (by
    rw [toList_data, toList_data] at e
    have e1 : a.data = b.data := Array.toList_inj.1 e
    cases a; cases b; cases e1; rfl)
theorem txt_eq {a b : ByteArray} (h : a = b) : (a.toList == b.toList) = true := by subst h; simp
/-- A definition that is handed on: its name, and its row of steps. -/
def DefIn (w : World) (v : Value) (D : DefD) : Prop := ∃ sv, v = .agg #[.string D.name, sv] ∧ DRow w sv D.steps
theorem DefIn.below {w w' : World} {v : Value} {D : DefD} (h : DefIn w v D) (hb : Below w.heap.size w w') : DefIn w' v D := by
  obtain ⟨sv, h1, h2⟩ := h
  exact ⟨sv, h1, h2.below hb⟩
end Go.Proofs.YthdloddcljbjhaaDoor
