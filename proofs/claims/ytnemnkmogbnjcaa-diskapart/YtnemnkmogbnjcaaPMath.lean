/- Files have nothing to do with one another. -/
import Derived.Test.YtnemnkmogbnjcaaAMath
set_option linter.unusedVariables false
namespace DiskMath
/-- All files but f are as they were. -/
def Oth (f : Nat) (d e : DS) : Prop := ∀ i, i ≠ f → e.F i = d.F i ∧ e.S i = d.S i
def act2 (f : Nat) (d : DS) (o : Op) : DS := if o.Do = 0 then (aApp d (f : Int) o.S.data.toList).1 else if o.Do = 1 then (aSyn d (f : Int)).1 else if o.Do = 2 then (aCut d (f : Int) o.N).1 else d
def run2 (f : Nat) (d : DS) (l : List Op) : DS := l.foldl (act2 f) d
theorem ok_act2 (f : Nat) (d : DS) (o : Op) (h : Ok d) : Ok (act2 f d o) := by
  unfold act2
  split
  · exact ok_aApp d _ _ h
  · split
    · exact ok_aSyn d _ h
    · split
      · exact ok_aCut d _ _ h
      · exact h
theorem ok_run2 (f : Nat) : ∀ (l : List Op) (d : DS), Ok d → Ok (run2 f d l)
  | [], d, h => h
  | o :: l, d, h => ok_run2 f l (act2 f d o) (ok_act2 f d o h)
theorem oth_act2 (f : Nat) (d e : DS) (o : Op) (h : Oth f d e) : Oth f d (act2 f e o) := by
  intro i hi
  have := h i hi
  unfold act2
  split
  · unfold aApp
    split
    · exact this
    · split
      · exact this
      · simp [app, upd, hi, this]
  · split
    · unfold aSyn
      split
      · exact this
      · simp [syn, upd, hi, this]
    · split
      · unfold aCut
        split
        · exact this
        · split
          · exact this
          · simp [cut, upd, hi, this]
      · exact this
theorem oth_run2 (f : Nat) (d : DS) : ∀ (l : List Op) (e : DS), Oth f d e → Oth f d (run2 f e l)
  | [], e, h => h
  | o :: l, e, h => oth_run2 f d l (act2 f e o) (oth_act2 f d e o h)
theorem run2_snoc (f : Nat) (d : DS) (l : List Op) (k : Nat) (h : k < l.length) : run2 f d (l.take (k + 1)) = act2 f (run2 f d (l.take k)) l[k] := by
  unfold run2
  rw [List.take_succ_eq_append_getElem h, List.foldl_append]
  rfl
end DiskMath
