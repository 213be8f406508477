/- The document's table, Delay, tick. -/
import Derived.Test.YteadnjagandkfaaPairW
import Derived.Test.YteadnjagandkfaaAgainW
set_option linter.unusedVariables false
set_option maxRecDepth 100000
namespace Go.Proofs.Yteadnjagandkfaa
open Go.RowKit
open WheelMath RetryMath
open Go.Maps (Keyed)

/-- The number ahead of a place; 1, where there is none. -/
def lastOf (l : List Int) (k : Nat) : Int := if k = 0 then 1 else l.getD (k - 1) 0
theorem last_zero (l : List Int) : lastOf l 0 = 1 := rfl
theorem last_succ (l : List Int) {k : Nat} (h : k < l.length) : lastOf l (k + 1) = l[k] := by
  unfold lastOf
  simp [h]
set_option maxHeartbeats 4000000 in
theorem refMay_any (v : Value) (l : List Int) (hl : l.length ≤ 140737488355328) (w : World) (h : IRow w v l) :
    Calls Try.prog 32 #[v] w fun e w' => e = .returned (.bool (may l)) ∧ Below w.heap.size w w' := by
  obtain ⟨ao, cap, rfl, hcap, _, hrow⟩ := h
  by_cases h1 : l.length < 1
  · obtain rfl : l = [] := List.eq_nil_of_length_eq_zero (by omega)
    clear hrow
    go_enter Try.func32, Try.ntmps32
    go_wp2
    go_ret
    exact ⟨rfl, Below.refl _ _⟩
  · by_cases h8 : 8 < l.length
    · have HF : Hid (may l = false) := by
        have x : may l = false := by unfold may; simp [h1, h8]
        exact x
      have d1 : decide ((l.length : Int) < 1) = false := by simp; omega
      have d2 : decide ((8 : Int) < (l.length : Int)) = true := by simp; omega
      clear h1 h8 hrow
      go_enter Try.func32, Try.ntmps32
      go_wp2
      go_ret
      rw [HF.out]
      exact ⟨rfl, Below.refl _ _⟩
    · have HF : Hid (may l = mayFrom 1 l) := by
        have x : may l = mayFrom 1 l := by unfold may; simp [h1, h8]
        exact x
      have HR : Hid (∀ j, (h : j < l.length) → ∃ g o, ao = some ⟨g, o, none⟩ ∧ g < w.heap.size ∧ w.cell? ⟨g, o + j, none⟩ = some (.int .i64 l[j])) := hrow
      have d1 : decide ((l.length : Int) < 1) = false := by simp; omega
      have d2 : decide ((8 : Int) < (l.length : Int)) = false := by simp; omega
      have h8b : l.length ≤ 8 := by omega
      clear hrow
      go_enter Try.func32, Try.ntmps32
      go_wp2
      go_loopw [3] (fun i wr => ∃ (k : Nat), k ≤ l.length ∧ i = .int .i64 (k : Int) ∧ Hid (1 ≤ lastOf l k ∧ mayFrom 1 l = mayFrom (lastOf l k) (l.drop k)) ∧ Hid (Below w.heap.size w wr)) (fun i _ => l.length - (intOf i).toNat)
      case atStart => exact ⟨0, Nat.zero_le _, rfl, ⟨Int.le_refl 1, rfl⟩, Below.refl _ _⟩
      case round =>
        obtain ⟨k, hk, rfl, HP, HB⟩ := hrel
        by_cases hlt : k < l.length
        · have hltI : (k : Int) < (l.length : Int) := by omega
          obtain ⟨g, o, rfl, hg, c0⟩ := HR.out k hlt
          have c1 : wr.cell? ⟨g, o + k, none⟩ = some (.int .i64 l[k]) := (HB.out.cell (p := ⟨g, o + k, none⟩) hg).trans c0
          have HD : Hid (l.drop k = l[k] :: l.drop (k + 1)) := List.drop_eq_getElem_cons hlt
          have HL : Hid (lastOf l (k + 1) = l[k]) := last_succ l hlt
          have HM : Hid (∀ j, k = j + 1 → ∃ z, lastOf l k = z ∧ wr.cell? ⟨g, o + j, none⟩ = some (.int .i64 z)) := fun j hj => by
            subst hj
            obtain ⟨g2, o2, e2, _, c2⟩ := HR.out j (by omega)
            cases e2
            exact ⟨l[j], last_succ l (by omega), (HB.out.cell (p := ⟨g, o + j, none⟩) hg).trans c2⟩
          generalize l[k] = t at *
          clear HR c0
          by_cases t0 : t < 1
          · have HE : Hid (may l = false) := by
              have x : may l = false := by rw [HF.out, HP.out.2, HD.out, mayFrom_low (by have := HP.out.1; omega)]
              exact x
            have e0 : decide (t < 1) = true := by simpa using t0
            clear HP HF HD HL HM
            go_wp2_with fail
            go_quiet (fail)
            rename_i nq
            have HB1 : Hid (Below w.heap.size w (wr.drewN nq)) := below_drewN HB.out nq
            go_wp2
            go_ret
            rw [HE.out]
            exact ⟨rfl, HB1.out⟩
          · have e0 : decide (t < 1) = false := by simpa using t0
            by_cases t2 : 1000 < t
            · have HE : Hid (may l = false) := by
                have x : may l = false := by rw [HF.out, HP.out.2, HD.out, mayFrom_high t2]
                exact x
              have e2 : decide (1000 < t) = true := by simpa using t2
              clear HP HF HD HL HM
              go_wp2_with fail
              go_quiet (fail)
              rename_i nq
              have HB1 : Hid (Below w.heap.size w (wr.drewN nq)) := below_drewN HB.out nq
              go_wp2
              go_ret
              rw [HE.out]
              exact ⟨rfl, HB1.out⟩
            · have e2 : decide (1000 < t) = false := by simpa using t2
              cases k with
              | zero =>
                have HP2 : Hid (1 ≤ lastOf l (0 + 1) ∧ mayFrom 1 l = mayFrom (lastOf l (0 + 1)) (l.drop (0 + 1))) := by
                  have x : 1 ≤ lastOf l (0 + 1) ∧ mayFrom 1 l = mayFrom (lastOf l (0 + 1)) (l.drop (0 + 1)) := by
                    rw [HL.out]
                    refine ⟨by omega, ?_⟩
                    rw [HP.out.2, HD.out, mayFrom_yes (by rw [last_zero]; omega) t2]
                  exact x
                have c3 : wr.cell? ⟨g, o, none⟩ = some (.int .i64 t) := c1
                have i0 : ¬ (0 : Int) < ((0 : Nat) : Int) := by omega
                have i1 : (0 : Int) < (l.length : Int) := by omega
                clear HP HD HL HM c1
                go_wp2_with fail
                go_quiet (fail)
                rename_i nq
                have HB1 : Hid (Below w.heap.size w (wr.drewN nq)) := below_drewN HB.out nq
                go_wp2
                exact ⟨⟨0 + 1, by omega, by go_num, HP2, HB1⟩, by simp [intOf]; omega⟩
              | succ j =>
                obtain ⟨z, hz, c2⟩ := HM.out j rfl
                have i0 : decide ((0 : Int) < ((j + 1 : Nat) : Int)) = true := decide_eq_true (by omega)
                have hwj : IntKind.i64.wrap (((j + 1 : Nat) : Int) - 1) = (j : Int) := by rw [IntKind.wrap_i64] <;> omega
                have hjl : (j : Int) < (l.length : Int) := by omega
                by_cases t3 : t < z
                · have HE : Hid (may l = false) := by
                    have x : may l = false := by rw [HF.out, HP.out.2, HD.out, mayFrom_low (by rw [hz]; exact t3)]
                    exact x
                  have e3 : decide (t < z) = true := by simpa using t3
                  clear HP HF HD HL HM hz
                  go_wp2_with fail
                  go_quiet (fail)
                  rename_i nq
                  have HB1 : Hid (Below w.heap.size w (wr.drewN nq)) := below_drewN HB.out nq
                  go_wp2
                  go_ret
                  rw [HE.out]
                  exact ⟨rfl, HB1.out⟩
                · have e3 : decide (t < z) = false := by simpa using t3
                  have HP2 : Hid (1 ≤ lastOf l (j + 1 + 1) ∧ mayFrom 1 l = mayFrom (lastOf l (j + 1 + 1)) (l.drop (j + 1 + 1))) := by
                    have x : 1 ≤ lastOf l (j + 1 + 1) ∧ mayFrom 1 l = mayFrom (lastOf l (j + 1 + 1)) (l.drop (j + 1 + 1)) := by
                      rw [HL.out]
                      refine ⟨by omega, ?_⟩
                      rw [HP.out.2, HD.out, mayFrom_yes (by rw [hz]; exact t3) t2]
                    exact x
                  clear HP HD HL HM hz
                  go_wp2_with fail
                  go_quiet (fail)
                  rename_i nq
                  have HB1 : Hid (Below w.heap.size w (wr.drewN nq)) := below_drewN HB.out nq
                  go_wp2
                  exact ⟨⟨j + 1 + 1, by omega, by go_num, HP2, HB1⟩, by simp [intOf]; omega⟩
        · have hltI : ¬ (k : Int) < (l.length : Int) := by omega
          have HE : Hid (may l = true) := by
            have x : may l = true := by rw [HF.out, HP.out.2, show k = l.length by omega, List.drop_length]; rfl
            exact x
          clear HP HF HR
          go_wp2_with fail
          go_ret
          rw [HE.out]
          exact ⟨rfl, HB.out⟩
theorem refTick_any (now : Int) (w : World) : Calls Try.prog 37 #[.int .i64 now] w fun e w' => e = .returned (.bool (decide (Tick now))) ∧ w' = w := by
  by_cases h0 : 0 ≤ now
  · by_cases h1 : now ≤ 1073741824
    · have e : decide (Tick now) = true := decide_eq_true ⟨h0, h1⟩
      rw [e]
      clear e
      go_enter Try.func37, Try.ntmps37
      go_wp2
      go_ret
      exact ⟨rfl, rfl⟩
    · have e : decide (Tick now) = false := decide_eq_false (fun h => h1 h.2)
      rw [e]
      clear e
      go_enter Try.func37, Try.ntmps37
      go_wp2
      go_ret
      exact ⟨rfl, rfl⟩
  · have e : decide (Tick now) = false := decide_eq_false (fun h => h0 h.1)
    rw [e]
    clear e
    go_enter Try.func37, Try.ntmps37
    go_wp2
    go_ret
    exact ⟨rfl, rfl⟩
end Go.Proofs.Yteadnjagandkfaa
