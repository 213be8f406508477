/- The room. -/
import Derived.Test.YtnemnkmogbnjcaaAMath
set_option linter.unusedVariables false
namespace DiskMath
theorem used_app (d : DS) (i : Nat) (h : i < 4) (s : List UInt8) : used (app d i s) = used d + s.length := by
  have := used_upd d i h (d.F i ++ s) d.S
  rw [List.length_append] at this
  show used ⟨upd d.F i (d.F i ++ s), d.S, d.R⟩ = _
  omega
theorem used_cut (d : DS) (i : Nat) (h : i < 4) (n : Nat) (hn : n ≤ (d.F i).length) : used (cut d i n) + (d.F i).length = used d + n := by
  have := used_upd d i h ((d.F i).take n) (upd d.S i (min (d.S i) n))
  rw [List.length_take, Nat.min_eq_left hn] at this
  exact this
theorem cut_F (d : DS) (i n : Nat) : (cut d i n).F i = (d.F i).take n := by unfold cut upd; simp
theorem app_F (d : DS) (i : Nat) (s : List UInt8) : (app d i s).F i = d.F i ++ s := by unfold app upd; simp
end DiskMath
