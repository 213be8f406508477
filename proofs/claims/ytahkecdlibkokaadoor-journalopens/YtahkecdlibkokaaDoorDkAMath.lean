/- What calls make of a disk, whatever their arguments are. -/
import Derived.Test.YtahkecdlibkokaaDoorDkDMath
set_option linter.unusedVariables false
set_option maxRecDepth 100000
namespace DiskMath

def bad (f : Int) : Prop := f < 0 ∨ 4 ≤ f
instance (f : Int) : Decidable (bad f) := by unfold bad; infer_instance
def aApp (d : DS) (f : Int) (s : List UInt8) : DS × Int := if bad f then (d, 40) else if d.R < used d + s.length then (d, 41) else (app d f.toNat s, 0)
def aSyn (d : DS) (f : Int) : DS × Int := if bad f then (d, 40) else (syn d f.toNat, 0)
def aCut (d : DS) (f n : Int) : DS × Int := if bad f then (d, 40) else if n < 0 ∨ ((d.F f.toNat).length : Int) < n then (d, 1) else (cut d f.toNat n.toNat, 0)
/-- A call of a script. -/
structure Op where
  Do : Int
  C : Int
  File : Int
  N : Int
  S : ByteArray
def act (d : DS) (o : Op) : DS :=
  if o.Do = 0 then (aApp d o.File o.S.data.toList).1 else if o.Do = 1 then (aSyn d o.File).1 else if o.Do = 2 then (aCut d o.File o.N).1 else if o.Do = 5 then crash d o.N.toNat else d
theorem ok_aApp (d : DS) (f : Int) (s : List UInt8) (h : Ok d) : Ok (aApp d f s).1 := by
  unfold aApp
  split
  · exact h
  · rename_i hb
    unfold bad at hb
    split
    · exact h
    · exact ok_app d _ s h (by omega) (by omega)
theorem ok_aSyn (d : DS) (f : Int) (h : Ok d) : Ok (aSyn d f).1 := by
  unfold aSyn
  split
  · exact h
  · exact ok_syn d _ h
theorem ok_aCut (d : DS) (f n : Int) (h : Ok d) : Ok (aCut d f n).1 := by
  unfold aCut
  split
  · exact h
  · rename_i hb
    unfold bad at hb
    split
    · exact h
    · exact ok_cut d _ _ h (by omega) (by omega)
theorem ok_act (d : DS) (o : Op) (h : Ok d) : Ok (act d o) := by
  unfold act
  split
  · exact ok_aApp d _ _ h
  · split
    · exact ok_aSyn d _ h
    · split
      · exact ok_aCut d _ _ h
      · split
        · exact ok_crash d _ h
        · exact h
def run (d : DS) (l : List Op) : DS := l.foldl act d
theorem ok_run : ∀ (l : List Op) (d : DS), Ok d → Ok (run d l)
  | [], d, h => h
  | o :: l, d, h => ok_run l (act d o) (ok_act d o h)
theorem run_snoc (d : DS) (l : List Op) (k : Nat) (h : k < l.length) : run d (l.take (k + 1)) = act (run d (l.take k)) l[k] := by
  unfold run
  rw [List.take_succ_eq_append_getElem h, List.foldl_append]
  rfl
/-- The law's own choice among n. -/
def pick (c : Int) (n : Nat) : Nat := (if c < 0 then -(c + 1) else c).toNat % n
end DiskMath
