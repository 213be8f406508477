/- What an instance may need, reckoned out of its steps. -/
import Derived.Test.YtaeakednekbekaaDoorCMath
set_option linter.unusedVariables false
namespace Go.Proofs.YtaeakednekbekaaDoor
open CheckMath

/-- Records of doing and undoing a step. -/
def nOf (s : StepD) : Nat := if s.kind = 1 then 2 else 1
def nmd (ss : List StepD) (p : Nat) : Bool := ss.any fun s => decide (s.part = (p : Int))
def one (b : Bool) : Nat := if b then 1 else 0
def atP (ss : List StepD) (p : Nat) : Nat := ((ss.filter fun s => decide (s.part = (p : Int))).map nOf).sum
/-- Of a participant. -/
def cP (ss : List StepD) (p : Nat) : Nat := one (nmd ss p) + atP ss p
def nn (ss : List StepD) : Nat := one (nmd ss 0) + one (nmd ss 1) + one (nmd ss 2) + one (nmd ss 3)
/-- Of the orchestrator. -/
def cO (ss : List StepD) : Nat := 3 + nn ss + (ss.map fun s => nOf s + 1).sum
/-- Of each node. -/
def rec5 (ss : List StepD) (j : Nat) : Nat := if j = 4 then cO ss else cP ss j
theorem nOf_pos (s : StepD) : 1 ≤ nOf s := by unfold nOf; split <;> omega
theorem nOf_le (s : StepD) : nOf s ≤ 2 := by unfold nOf; split <;> omega
theorem one_le (b : Bool) : one b ≤ 1 := by cases b <;> decide
theorem nmd_more (ss : List StepD) (s : StepD) (p : Nat) : nmd (ss ++ [s]) p = (nmd ss p || decide (s.part = (p : Int))) := by simp [nmd, List.any_append]
theorem atP_more (ss : List StepD) (s : StepD) (p : Nat) : atP (ss ++ [s]) p = atP ss p + if s.part = (p : Int) then nOf s else 0 := by
  unfold atP
  rw [List.filter_append, List.map_append, List.sum_append]
  by_cases h : s.part = (p : Int) <;> simp [h]
theorem atP_le (ss : List StepD) (p : Nat) : atP ss p ≤ 2 * ss.length := by
  unfold atP
  induction ss with
  | nil => simp
  | cons s ss ih =>
    by_cases h : s.part = (p : Int)
    · have := nOf_le s
      simp [h]
      omega
    · simp [h]
      omega
theorem sum_le (ss : List StepD) : (ss.map fun s => nOf s + 1).sum ≤ 3 * ss.length := by
  induction ss with
  | nil => simp
  | cons s ss ih =>
    have := nOf_le s
    simp
    omega
theorem cP_le (ss : List StepD) (p : Nat) : cP ss p ≤ 1 + 2 * ss.length := by
  have := one_le (nmd ss p)
  have := atP_le ss p
  unfold cP
  omega
theorem cO_le (ss : List StepD) : cO ss ≤ 7 + 3 * ss.length := by
  have := one_le (nmd ss 0)
  have := one_le (nmd ss 1)
  have := one_le (nmd ss 2)
  have := one_le (nmd ss 3)
  have := sum_le ss
  unfold cO nn
  omega
theorem rec5_le (ss : List StepD) (j : Nat) : rec5 ss j ≤ 7 + 3 * ss.length := by
  unfold rec5
  have := cO_le ss
  have := cP_le ss j
  split <;> omega
theorem cO_pos (ss : List StepD) : 3 ≤ cO ss := by unfold cO; omega
/-- A participant that is named needs something; one that is not, nothing. -/
theorem atP_zero {ss : List StepD} {p : Nat} (h : nmd ss p = false) : atP ss p = 0 := by
  unfold atP
  rw [show ss.filter (fun s => decide (s.part = (p : Int))) = [] from ?_]
  · rfl
  · rw [List.filter_eq_nil_iff]
    intro s hs hd
    have : nmd ss p = true := List.any_eq_true.2 ⟨s, hs, hd⟩
    rw [h] at this
    cases this
theorem cP_zero {ss : List StepD} {p : Nat} : cP ss p = 0 ↔ nmd ss p = false := by
  constructor
  · intro h
    cases e : nmd ss p with
    | false => rfl
    | true => unfold cP at h; rw [e] at h; simp [one] at h
  · intro h
    unfold cP
    rw [h, atP_zero h]
    rfl
def named1 (q j : Nat) : Nat := if j = 4 then 1 else if j = q then 1 else 0
def step1 (s : StepD) (q j : Nat) : Nat := if j = 4 then nOf s + 1 else if j = q then nOf s else 0
theorem one_or_yes {b : Bool} : one (b || true) = 1 := by cases b <;> rfl
theorem nn_more (ss : List StepD) (s : StepD) (q : Nat) (hq : q < 4) (hs : s.part = (q : Int)) : nn (ss ++ [s]) = nn ss + if nmd ss q = false then 1 else 0 := by
  unfold nn
  rw [nmd_more, nmd_more, nmd_more, nmd_more, hs]
  have h4 : q = 0 ∨ q = 1 ∨ q = 2 ∨ q = 3 := by omega
  rcases h4 with rfl | rfl | rfl | rfl <;> cases nmd ss 0 <;> cases nmd ss 1 <;> cases nmd ss 2 <;> cases nmd ss 3 <;> decide
/-- A step whose participant was named. -/
theorem rec5_old {ss : List StepD} {s : StepD} {q : Nat} (hq : q < 4) (hs : s.part = (q : Int)) (h : nmd ss q = true) (j : Nat) (hj : j < 5) : rec5 (ss ++ [s]) j = rec5 ss j + step1 s q j := by
  unfold rec5 step1
  by_cases e : j = 4
  · rw [if_pos e, if_pos e, if_pos e]
    unfold cO
    rw [nn_more ss s q hq hs, h, List.map_append, List.sum_append]
    simp
    omega
  · rw [if_neg e, if_neg e, if_neg e]
    unfold cP
    rw [nmd_more, atP_more, hs]
    by_cases e2 : j = q
    · subst e2
      rw [h]
      simp
      omega
    · have : ¬ (q : Int) = (j : Int) := by omega
      simp [e2, this]
theorem rec5_new {ss : List StepD} {s : StepD} {q : Nat} (hq : q < 4) (hs : s.part = (q : Int)) (h : nmd ss q = false) (j : Nat) (hj : j < 5) : rec5 (ss ++ [s]) j = rec5 ss j + named1 q j + step1 s q j := by
  unfold rec5 step1 named1
  by_cases e : j = 4
  · rw [if_pos e, if_pos e, if_pos e, if_pos e]
    unfold cO
    rw [nn_more ss s q hq hs, h, List.map_append, List.sum_append]
    simp
    omega
  · rw [if_neg e, if_neg e, if_neg e, if_neg e]
    unfold cP
    rw [nmd_more, atP_more, hs]
    by_cases e2 : j = q
    · subst e2
      rw [h, atP_zero h]
      simp [one]
    · have : ¬ (q : Int) = (j : Int) := by omega
      simp [e2, this]
/-- The participants that are named, less than n. -/
def nmL (ss : List StepD) (n : Nat) : List Nat := (List.range n).filter (nmd ss)
theorem nmL_yes {ss : List StepD} {n : Nat} (h : nmd ss n = true) : nmL ss (n + 1) = nmL ss n ++ [n] := by simp [nmL, List.range_succ, List.filter_append, h]
theorem nmL_no {ss : List StepD} {n : Nat} (h : nmd ss n = false) : nmL ss (n + 1) = nmL ss n := by simp [nmL, List.range_succ, List.filter_append, h]
theorem nmL_len (ss : List StepD) (n : Nat) : (nmL ss n).length ≤ n := by
  have := List.length_filter_le (nmd ss) (List.range n)
  rw [List.length_range] at this
  exact this
theorem nmL_lt {ss : List StepD} {n p : Nat} (h : p ∈ nmL ss n) : p < n := by
  have := (List.mem_filter.1 h).1
  simpa using this
theorem nmL_four (ss : List StepD) : (nmL ss 4).length = nn ss := by
  unfold nmL nn
  rw [show List.range 4 = [0, 1, 2, 3] from rfl]
  cases h0 : nmd ss 0 <;> cases h1 : nmd ss 1 <;> cases h2 : nmd ss 2 <;> cases h3 : nmd ss 3 <;> simp [List.filter, h0, h1, h2, h3, one]
theorem nmL_mem {ss : List StepD} {p : Nat} : p ∈ nmL ss 4 ↔ p < 4 ∧ nmd ss p = true := by simp [nmL]
end Go.Proofs.YtaeakednekbekaaDoor
