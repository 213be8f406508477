/- What was made safe stays. -/
import Derived.Test.YtnemnkmogbnjcaaAMath
set_option linter.unusedVariables false
namespace DiskMath

/-- The file f begins with s, and all of it is safe. -/
def Pre (f : Nat) (s : List UInt8) (d : DS) : Prop := (d.F f).take s.length = s ∧ s.length ≤ d.S f
theorem pre_len {f : Nat} {s : List UInt8} {d : DS} (h : Pre f s d) : s.length ≤ (d.F f).length := by
  have := congrArg List.length h.1
  rw [List.length_take] at this
  omega
theorem pre_app {f : Nat} {s : List UInt8} {d : DS} (h : Pre f s d) (i : Nat) (t : List UInt8) : Pre f s (app d i t) := by
  unfold Pre app upd
  have hl := pre_len h
  refine ⟨?_, h.2⟩
  show List.take s.length (if f = i then d.F i ++ t else d.F f) = s
  split
  · rename_i e; subst e; rw [List.take_append_of_le_length hl]; exact h.1
  · exact h.1
theorem pre_syn {f : Nat} {s : List UInt8} {d : DS} (h : Pre f s d) (i : Nat) : Pre f s (syn d i) := by
  refine ⟨h.1, ?_⟩
  unfold syn upd
  show s.length ≤ if f = i then (d.F i).length else d.S f
  split
  · rename_i e; subst e; exact pre_len h
  · exact h.2
theorem pre_cr {f : Nat} {s : List UInt8} {d : DS} (h : Pre f s d) (i left : Nat) : Pre f s (cr d i left) := by
  unfold Pre cr upd
  constructor
  · show List.take s.length (if f = i then (d.F i).take (d.S i + stay d i left) else d.F f) = s
    split
    · rename_i e; subst e; rw [List.take_take, Nat.min_eq_left (by have := h.2; omega)]; exact h.1
    · exact h.1
  · show s.length ≤ if f = i then d.S i + stay d i left else d.S f
    split
    · rename_i e; subst e; have := h.2; omega
    · exact h.2
theorem pre_crs {f : Nat} {s : List UInt8} {d : DS} (h : Pre f s d) (keep : Nat) : ∀ k, Pre f s (crs d keep k).1
  | 0 => h
  | k + 1 => pre_cr (pre_crs h keep k) _ _
theorem pre_crash {f : Nat} {s : List UInt8} {d : DS} (h : Pre f s d) (keep : Nat) : Pre f s (crash d keep) := pre_crs h keep 4
theorem pre_aApp {f : Nat} {s : List UInt8} {d : DS} (h : Pre f s d) (i : Int) (t : List UInt8) : Pre f s (aApp d i t).1 := by
  unfold aApp
  split
  · exact h
  · split
    · exact h
    · exact pre_app h _ _
theorem pre_aSyn {f : Nat} {s : List UInt8} {d : DS} (h : Pre f s d) (i : Int) : Pre f s (aSyn d i).1 := by
  unfold aSyn
  split
  · exact h
  · exact pre_syn h _
/-- The law's own going on: no cuts. -/
def act3 (d : DS) (o : Op) : DS := if o.Do = 0 then (aApp d o.File o.S.data.toList).1 else if o.Do = 1 then (aSyn d o.File).1 else if o.Do = 5 then crash d o.N.toNat else d
def run3 (d : DS) (l : List Op) : DS := l.foldl act3 d
theorem ok_act3 (d : DS) (o : Op) (h : Ok d) : Ok (act3 d o) := by
  unfold act3
  split
  · exact ok_aApp d _ _ h
  · split
    · exact ok_aSyn d _ h
    · split
      · exact ok_crash d _ h
      · exact h
theorem ok_run3 : ∀ (l : List Op) (d : DS), Ok d → Ok (run3 d l)
  | [], d, h => h
  | o :: l, d, h => ok_run3 l (act3 d o) (ok_act3 d o h)
theorem pre_act3 {f : Nat} {s : List UInt8} {d : DS} (h : Pre f s d) (o : Op) : Pre f s (act3 d o) := by
  unfold act3
  split
  · exact pre_aApp h _ _
  · split
    · exact pre_aSyn h _
    · split
      · exact pre_crash h _
      · exact h
theorem pre_run3 {f : Nat} {s : List UInt8} : ∀ (l : List Op) (d : DS), Pre f s d → Pre f s (run3 d l)
  | [], d, h => h
  | o :: l, d, h => pre_run3 l (act3 d o) (pre_act3 h o)
theorem run3_snoc (d : DS) (l : List Op) (k : Nat) (h : k < l.length) : run3 d (l.take (k + 1)) = act3 (run3 d (l.take k)) l[k] := by
  unfold run3
  rw [List.take_succ_eq_append_getElem h, List.foldl_append]
  rfl
theorem pre_self (d : DS) (f : Nat) : Pre f ((syn d f).F f) (syn d f) := by
  refine ⟨List.take_of_length_le (Nat.le_refl _), ?_⟩
  unfold syn upd
  show (d.F f).length ≤ if f = f then (d.F f).length else d.S f
  rw [if_pos rfl]
  exact Nat.le_refl _
end DiskMath
