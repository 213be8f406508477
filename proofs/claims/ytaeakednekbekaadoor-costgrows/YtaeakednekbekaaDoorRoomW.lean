/- The walks of Room, the program's and the document's: no definition is in them. -/
import Derived.Test.YtaeakednekbekaaDoorCoMath
import Derived.Test.YtaeakednekbekaaDoorCBase
set_option linter.unusedVariables false
set_option maxRecDepth 100000
namespace Go.Proofs.YtaeakednekbekaaDoor
open Go.RowKit

def roomM (n u : Int) : Int × Int := if n < 0 ∨ 5 ≤ n ∨ u < 0 ∨ 100000 < u then (0, 1) else if n = 4 then (2 * (200 + 64 * u + 32000), 0) else (2 * (200 + 64 * u), 0)
theorem room_any (n u : Int) (w : World) : Calls Tryd.prog 14 #[.int .i64 n, .int .i64 u] w fun e w' => e = .returned (.tuple #[.int .i64 (roomM n u).1, .int .i64 (roomM n u).2]) ∧ w' = w := by
  by_cases h1 : n < 0
  · rw [show roomM n u = (0, 1) by unfold roomM; rw [if_pos (by omega)]]
    go_enter Tryd.func14, Tryd.ntmps14
    go_wp2
    go_ret2
    exact ⟨rfl, rfl⟩
  by_cases h2 : 5 ≤ n
  · rw [show roomM n u = (0, 1) by unfold roomM; rw [if_pos (by omega)]]
    go_enter Tryd.func14, Tryd.ntmps14
    go_wp2
    go_ret2
    exact ⟨rfl, rfl⟩
  by_cases h3 : u < 0
  · rw [show roomM n u = (0, 1) by unfold roomM; rw [if_pos (by omega)]]
    have d2 : decide (5 ≤ n) = false := by simpa using h2
    go_enter Tryd.func14, Tryd.ntmps14
    go_wp2
    go_ret2
    exact ⟨rfl, rfl⟩
  by_cases h4 : 100000 < u
  · rw [show roomM n u = (0, 1) by unfold roomM; rw [if_pos (by omega)]]
    go_enter Tryd.func14, Tryd.ntmps14
    go_wp2
    go_ret2
    exact ⟨rfl, rfl⟩
  have u0 : 0 ≤ u := by omega
  have u1 : u ≤ 100000 := by omega
  have d4 : decide (100000 < u) = false := by simpa using h4
  by_cases h5 : n = 4
  · rw [show roomM n u = (2 * (200 + 64 * u + 32000), 0) by unfold roomM; rw [if_neg (by omega), if_pos h5]]
    subst h5
    go_enter Tryd.func14, Tryd.ntmps14
    go_wp2
    go_ret2
    exact ⟨rfl, rfl⟩
  · rw [show roomM n u = (2 * (200 + 64 * u), 0) by unfold roomM; rw [if_neg (by omega), if_neg h5]]
    have h6 : (n == 4) = false := by simpa using h5
    go_enter Tryd.func14, Tryd.ntmps14
    go_wp2
    go_ret2
    exact ⟨rfl, rfl⟩
theorem refRoom_any (n u : Int) (w : World) : Calls Tryd.prog 15 #[.int .i64 n, .int .i64 u] w fun e w' => e = .returned (.tuple #[.int .i64 (roomM n u).1, .int .i64 (roomM n u).2]) ∧ w' = w := by
  by_cases h1 : n < 0
  · rw [show roomM n u = (0, 1) by unfold roomM; rw [if_pos (by omega)]]
    go_enter Tryd.func15, Tryd.ntmps15
    go_wp2
    go_ret2
    exact ⟨rfl, rfl⟩
  by_cases h2 : 4 < n
  · rw [show roomM n u = (0, 1) by unfold roomM; rw [if_pos (by omega)]]
    go_enter Tryd.func15, Tryd.ntmps15
    go_wp2
    go_ret2
    exact ⟨rfl, rfl⟩
  by_cases h3 : u < 0
  · rw [show roomM n u = (0, 1) by unfold roomM; rw [if_pos (by omega)]]
    go_enter Tryd.func15, Tryd.ntmps15
    go_wp2
    go_ret2
    exact ⟨rfl, rfl⟩
  by_cases h4 : 100000 < u
  · rw [show roomM n u = (0, 1) by unfold roomM; rw [if_pos (by omega)]]
    go_enter Tryd.func15, Tryd.ntmps15
    go_wp2
    go_ret2
    exact ⟨rfl, rfl⟩
  have u0 : 0 ≤ u := by omega
  have u1 : u ≤ 100000 := by omega
  have d4 : decide (100000 < u) = false := by simpa using h4
  by_cases h5 : n = 4
  · rw [show roomM n u = (2 * (200 + 64 * u + 32000), 0) by unfold roomM; rw [if_neg (by omega), if_pos h5]]
    subst h5
    go_enter Tryd.func15, Tryd.ntmps15
    go_wp2
    go_ret2
    exact ⟨rfl, rfl⟩
  · rw [show roomM n u = (2 * (200 + 64 * u), 0) by unfold roomM; rw [if_neg (by omega), if_neg h5]]
    have h6 : (n == 4) = false := by simpa using h5
    go_enter Tryd.func15, Tryd.ntmps15
    go_wp2
    go_ret2
    exact ⟨rfl, rfl⟩
end Go.Proofs.YtaeakednekbekaaDoor
