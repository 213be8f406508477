/- The walks of the questions, of all and each, of units and costs. -/
import Derived.Test.YtgffcgigjiedpaaQBase
set_option linter.unusedVariables false
set_option maxRecDepth 100000
namespace Go.Proofs.Ytgffcgigjiedpaa
open Go.RowKit

def BudgetOk (c : Int) : Prop := 0 ≤ c ∧ c ≤ 100000
theorem mayBeBudget_any (j c : Int) (w : World) : Calls Try.prog 17 #[.int .i64 j, .int .i64 c] w fun e w' => e = .returned (.bool (tt (BudgetOk c))) ∧ w' = w := by
  by_cases h0 : 0 ≤ c
  · by_cases h1 : c ≤ 100000
    · have HE : Hid (tt (BudgetOk c) = true) := tt_yes ⟨h0, h1⟩
      generalize tt (BudgetOk c) = r at *
      go_enter Try.func17, Try.ntmps17
      go_wp2
      go_ret
      rw [HE.out]
      exact ⟨rfl, rfl⟩
    · have HE : Hid (tt (BudgetOk c) = false) := tt_no (fun h => h1 h.2)
      generalize tt (BudgetOk c) = r at *
      go_enter Try.func17, Try.ntmps17
      go_wp2
      go_ret
      rw [HE.out]
      exact ⟨rfl, rfl⟩
  · have HE : Hid (tt (BudgetOk c) = false) := tt_no (fun h => h0 h.1)
    generalize tt (BudgetOk c) = r at *
    go_enter Try.func17, Try.ntmps17
    go_wp2
    go_ret
    rw [HE.out]
    exact ⟨rfl, rfl⟩
theorem mayBeAsked_any (j c : Int) (w : World) : Calls Try.prog 19 #[.int .i64 j, .int .i64 c] w fun e w' => e = .returned (.bool (tt (0 ≤ c))) ∧ w' = w := by
  by_cases h0 : 0 ≤ c
  · have HE : Hid (tt (0 ≤ c) = true) := tt_yes h0
    generalize tt (0 ≤ c) = r at *
    go_enter Try.func19, Try.ntmps19
    go_wp2
    go_ret
    rw [HE.out]
    exact ⟨rfl, rfl⟩
  · have HE : Hid (tt (0 ≤ c) = false) := tt_no h0
    generalize tt (0 ≤ c) = r at *
    go_enter Try.func19, Try.ntmps19
    go_wp2
    go_ret
    rw [HE.out]
    exact ⟨rfl, rfl⟩
set_option maxHeartbeats 1000000 in
theorem covers_any (w : World) (q : Nat) (m n : Int) (f : Five) (h : ∀ j v, (q7 m n f)[j]? = some v → w.cell? ⟨q, j, none⟩ = some v) (j : Nat) (hj : j < 5) (c : Int) :
    Calls Try.prog 20 #[.pointer (some ⟨q, 2, none⟩), .int .i64 (j : Int), .int .i64 c] w fun e w' => e = .returned (.bool (tt (c ≤ f j))) ∧ w' = w := by
  have c0 := h _ _ (q7_at m n f j hj)
  have hjI : (j : Int) < 5 := by omega
  clear h
  generalize f j = z at *
  by_cases hc : c ≤ z
  · have HE : Hid (tt (c ≤ z) = true) := tt_yes hc
    generalize tt (c ≤ z) = r at *
    go_enter Try.func20, Try.ntmps20
    go_wp2
    go_ret
    rw [HE.out]
    exact ⟨rfl, rfl⟩
  · have HE : Hid (tt (c ≤ z) = false) := tt_no hc
    generalize tt (c ≤ z) = r at *
    go_enter Try.func20, Try.ntmps20
    go_wp2
    go_ret
    rw [HE.out]
    exact ⟨rfl, rfl⟩
/-- spend: a number less. -/
theorem spend_any {B : Nat} {w wr : World} {rs : List Res} (q : Nat) (m n : Int) (f : Five) (h : Has B w (BlockR q (q7 m n f) :: rs) wr) (j : Nat) (hj : j < 5) (c : Int) (hlo : -9223372036854775808 ≤ f j - c) (hhi : f j - c ≤ 9223372036854775807) :
    Calls Try.prog 22 #[.pointer (some ⟨q, 2, none⟩), .int .i64 (j : Int), .int .i64 c] wr fun e w' => e = .returned (.tuple #[]) ∧ Has B w (BlockR q (q7 m n (upd f j (f j - c))) :: rs) w' := by
  obtain ⟨c0, c1⟩ := h.cell List.mem_cons_self _ _ (q7_at m n f j hj)
  have HP : Hid (Has B w (BlockR q (q7 m n (upd f j (f j - c))) :: rs) (wr.setCell ⟨q, 2 + j, none⟩ (.int .i64 (f j - c)))) := by
    have h2 := h.put (2 + j) (by show 2 + j < 7; omega) (.int .i64 (f j - c))
    rw [q7_set m n f j _ hj] at h2
    exact h2
  have hjI : (j : Int) < 5 := by omega
  clear h
  generalize f j = z at *
  go_enter Try.func22, Try.ntmps22
  go_region
  all_goals (refine bodyPost_end (results_none rfl _ _ _) rfl ?_; exact ⟨rfl, HP.out.below (below_drewN (Below.refl _ _) 1)⟩)

set_option maxHeartbeats 2000000 in
theorem all_budget (w : World) (u : Five)  :
    Calls Try.prog 16 #[.agg #[.int .i64 (u 0), .int .i64 (u 1), .int .i64 (u 2), .int .i64 (u 3), .int .i64 (u 4)], .func (.func 17) #[] #[]] w fun e w' => e = .returned (.bool (tt (∀ j : Nat, j < 5 → BudgetOk (u j)))) ∧ Below w.heap.size w w' := by
  have HY : Hid ((∀ j : Nat, j < 5 → BudgetOk (u j)) → tt (∀ j : Nat, j < 5 → BudgetOk (u j)) = true) := fun h => tt_yes h
  have HN : Hid (∀ j : Nat, j < 5 → ¬ (BudgetOk (u j)) → tt (∀ j : Nat, j < 5 → BudgetOk (u j)) = false) := fun j hj h => tt_no (fun k => h (k j hj))
  have CX : Hid (∀ j : Nat, j < 5 → ∀ wq, Below w.heap.size w wq → Calls Try.prog 17 #[.int .i64 (j : Int), .int .i64 (u j)] wq fun e w' => e = .returned (.bool (tt (BudgetOk (u j)))) ∧ w' = wq) := fun j hj wq hq => mayBeBudget_any _ _ _
  generalize tt (∀ j : Nat, j < 5 → BudgetOk (u j)) = R at *
  skip
  go_enter Try.func16, Try.ntmps16
  go_wp2_with fail
  have HB0 : Hid (Below w.heap.size w (w.alloc (.cells #[.int .i64 (u 0), .int .i64 (u 1), .int .i64 (u 2), .int .i64 (u 3), .int .i64 (u 4)] 45))) := (Below.refl _ _).alloc (Nat.le_refl _) _
  generalize w.alloc (.cells #[.int .i64 (u 0), .int .i64 (u 1), .int .i64 (u 2), .int .i64 (u 3), .int .i64 (u 4)] 45) = w0 at *
  go_loop [8] (fun i => ∃ k : Nat, k ≤ 5 ∧ i = .int .i64 (k : Int) ∧ Hid (∀ j : Nat, j < k → BudgetOk (u j))) (fun i => 5 - (intOf i).toNat)
  case atStart => exact ⟨0, Nat.zero_le _, rfl, fun j hj => absurd hj (Nat.not_lt_zero _)⟩
  case round =>
    obtain ⟨k, hk, rfl, HP⟩ := hrel
    by_cases hlt : k < 5
    · have hltI : (k : Int) < 5 := by omega
      have KI := fun wq => index5 u k hlt wq
      have C := CX.out k hlt w0 HB0.out
      by_cases hp : BudgetOk (u k)
      · have HP2 : Hid (∀ j : Nat, j < k + 1 → BudgetOk (u j)) := fun j hj => by
          by_cases e : j = k
          · subst e; exact hp
          · exact HP.out j (by omega)
        rw [tt_yes hp] at C
        clear hp HP CX HY HN
        generalize u k = uk at *
        go_wp2_with fail
        refine C.mono ?_
        rintro e w1 ⟨rfl, hw⟩
        rw [hw]; clear hw w1 C
        go_wp2_with fail
        exact ⟨⟨k + 1, by omega, by go_num, HP2⟩, by simp [intOf]; omega⟩
      · have HR : Hid (R = false) := HN.out k hlt (by first | exact hp | omega)
        rw [tt_no hp] at C
        clear hp HP CX HY HN
        generalize u k = uk at *
        go_wp2_with fail
        refine C.mono ?_
        rintro e w1 ⟨rfl, hw⟩
        rw [hw]; clear hw w1 C
        go_wp2_with fail
        go_ret
        rw [HR.out]
        exact ⟨rfl, HB0.out⟩
    · have hltI : ¬ (k : Int) < 5 := by omega
      have HR : Hid (R = true) := HY.out (fun j hj => HP.out j (by omega))
      clear HP CX HY HN
      go_wp2_with fail
      go_ret
      rw [HR.out]
      exact ⟨rfl, HB0.out⟩

set_option maxHeartbeats 2000000 in
theorem all_asked (w : World) (u : Five)  :
    Calls Try.prog 16 #[.agg #[.int .i64 (u 0), .int .i64 (u 1), .int .i64 (u 2), .int .i64 (u 3), .int .i64 (u 4)], .func (.func 19) #[] #[]] w fun e w' => e = .returned (.bool (tt (∀ j : Nat, j < 5 → 0 ≤ u j))) ∧ Below w.heap.size w w' := by
  have HY : Hid ((∀ j : Nat, j < 5 → 0 ≤ u j) → tt (∀ j : Nat, j < 5 → 0 ≤ u j) = true) := fun h => tt_yes h
  have HN : Hid (∀ j : Nat, j < 5 → ¬ (0 ≤ u j) → tt (∀ j : Nat, j < 5 → 0 ≤ u j) = false) := fun j hj h => tt_no (fun k => h (k j hj))
  have CX : Hid (∀ j : Nat, j < 5 → ∀ wq, Below w.heap.size w wq → Calls Try.prog 19 #[.int .i64 (j : Int), .int .i64 (u j)] wq fun e w' => e = .returned (.bool (tt (0 ≤ u j))) ∧ w' = wq) := fun j hj wq hq => mayBeAsked_any _ _ _
  generalize tt (∀ j : Nat, j < 5 → 0 ≤ u j) = R at *
  skip
  go_enter Try.func16, Try.ntmps16
  go_wp2_with fail
  have HB0 : Hid (Below w.heap.size w (w.alloc (.cells #[.int .i64 (u 0), .int .i64 (u 1), .int .i64 (u 2), .int .i64 (u 3), .int .i64 (u 4)] 45))) := (Below.refl _ _).alloc (Nat.le_refl _) _
  generalize w.alloc (.cells #[.int .i64 (u 0), .int .i64 (u 1), .int .i64 (u 2), .int .i64 (u 3), .int .i64 (u 4)] 45) = w0 at *
  go_loop [8] (fun i => ∃ k : Nat, k ≤ 5 ∧ i = .int .i64 (k : Int) ∧ Hid (∀ j : Nat, j < k → 0 ≤ u j)) (fun i => 5 - (intOf i).toNat)
  case atStart => exact ⟨0, Nat.zero_le _, rfl, fun j hj => absurd hj (Nat.not_lt_zero _)⟩
  case round =>
    obtain ⟨k, hk, rfl, HP⟩ := hrel
    by_cases hlt : k < 5
    · have hltI : (k : Int) < 5 := by omega
      have KI := fun wq => index5 u k hlt wq
      have C := CX.out k hlt w0 HB0.out
      by_cases hp : 0 ≤ u k
      · have HP2 : Hid (∀ j : Nat, j < k + 1 → 0 ≤ u j) := fun j hj => by
          by_cases e : j = k
          · subst e; exact hp
          · exact HP.out j (by omega)
        rw [tt_yes hp] at C
        clear hp HP CX HY HN
        generalize u k = uk at *
        go_wp2_with fail
        refine C.mono ?_
        rintro e w1 ⟨rfl, hw⟩
        rw [hw]; clear hw w1 C
        go_wp2_with fail
        exact ⟨⟨k + 1, by omega, by go_num, HP2⟩, by simp [intOf]; omega⟩
      · have HR : Hid (R = false) := HN.out k hlt (by first | exact hp | omega)
        rw [tt_no hp] at C
        clear hp HP CX HY HN
        generalize u k = uk at *
        go_wp2_with fail
        refine C.mono ?_
        rintro e w1 ⟨rfl, hw⟩
        rw [hw]; clear hw w1 C
        go_wp2_with fail
        go_ret
        rw [HR.out]
        exact ⟨rfl, HB0.out⟩
    · have hltI : ¬ (k : Int) < 5 := by omega
      have HR : Hid (R = true) := HY.out (fun j hj => HP.out j (by omega))
      clear HP CX HY HN
      go_wp2_with fail
      go_ret
      rw [HR.out]
      exact ⟨rfl, HB0.out⟩

set_option maxHeartbeats 2000000 in
theorem all_covers (w : World) (u : Five) (q : Nat) (m n : Int) (f : Five) (h : ∀ j v, (q7 m n f)[j]? = some v → w.cell? ⟨q, j, none⟩ = some v) :
    Calls Try.prog 16 #[.agg #[.int .i64 (u 0), .int .i64 (u 1), .int .i64 (u 2), .int .i64 (u 3), .int .i64 (u 4)], .func (.func 20) #[.pointer (some ⟨q, 2, none⟩)] #[]] w fun e w' => e = .returned (.bool (tt (∀ j : Nat, j < 5 → u j ≤ f j))) ∧ Below w.heap.size w w' := by
  have HY : Hid ((∀ j : Nat, j < 5 → u j ≤ f j) → tt (∀ j : Nat, j < 5 → u j ≤ f j) = true) := fun h => tt_yes h
  have HN : Hid (∀ j : Nat, j < 5 → ¬ (u j ≤ f j) → tt (∀ j : Nat, j < 5 → u j ≤ f j) = false) := fun j hj h => tt_no (fun k => h (k j hj))
  have CX : Hid (∀ j : Nat, j < 5 → ∀ wq, Below w.heap.size w wq → Calls Try.prog 20 #[.pointer (some ⟨q, 2, none⟩), .int .i64 (j : Int), .int .i64 (u j)] wq fun e w' => e = .returned (.bool (tt (u j ≤ f j))) ∧ w' = wq) := fun j hj wq hq => covers_any wq q m n f (fun i v hi => (hq.cell (p := ⟨q, i, none⟩) (block_lt_of_cell (h i v hi))).trans (h i v hi)) j hj _
  generalize tt (∀ j : Nat, j < 5 → u j ≤ f j) = R at *
  clear h
  go_enter Try.func16, Try.ntmps16
  go_wp2_with fail
  have HB0 : Hid (Below w.heap.size w (w.alloc (.cells #[.int .i64 (u 0), .int .i64 (u 1), .int .i64 (u 2), .int .i64 (u 3), .int .i64 (u 4)] 45))) := (Below.refl _ _).alloc (Nat.le_refl _) _
  generalize w.alloc (.cells #[.int .i64 (u 0), .int .i64 (u 1), .int .i64 (u 2), .int .i64 (u 3), .int .i64 (u 4)] 45) = w0 at *
  go_loop [8] (fun i => ∃ k : Nat, k ≤ 5 ∧ i = .int .i64 (k : Int) ∧ Hid (∀ j : Nat, j < k → u j ≤ f j)) (fun i => 5 - (intOf i).toNat)
  case atStart => exact ⟨0, Nat.zero_le _, rfl, fun j hj => absurd hj (Nat.not_lt_zero _)⟩
  case round =>
    obtain ⟨k, hk, rfl, HP⟩ := hrel
    by_cases hlt : k < 5
    · have hltI : (k : Int) < 5 := by omega
      have KI := fun wq => index5 u k hlt wq
      have C := CX.out k hlt w0 HB0.out
      by_cases hp : u k ≤ f k
      · have HP2 : Hid (∀ j : Nat, j < k + 1 → u j ≤ f j) := fun j hj => by
          by_cases e : j = k
          · subst e; exact hp
          · exact HP.out j (by omega)
        rw [tt_yes hp] at C
        clear hp HP CX HY HN
        generalize u k = uk at *
        go_wp2_with fail
        refine C.mono ?_
        rintro e w1 ⟨rfl, hw⟩
        rw [hw]; clear hw w1 C
        go_wp2_with fail
        exact ⟨⟨k + 1, by omega, by go_num, HP2⟩, by simp [intOf]; omega⟩
      · have HR : Hid (R = false) := HN.out k hlt (by first | exact hp | omega)
        rw [tt_no hp] at C
        clear hp HP CX HY HN
        generalize u k = uk at *
        go_wp2_with fail
        refine C.mono ?_
        rintro e w1 ⟨rfl, hw⟩
        rw [hw]; clear hw w1 C
        go_wp2_with fail
        go_ret
        rw [HR.out]
        exact ⟨rfl, HB0.out⟩
    · have hltI : ¬ (k : Int) < 5 := by omega
      have HR : Hid (R = true) := HY.out (fun j hj => HP.out j (by omega))
      clear HP CX HY HN
      go_wp2_with fail
      go_ret
      rw [HR.out]
      exact ⟨rfl, HB0.out⟩
end Go.Proofs.Ytgffcgigjiedpaa
