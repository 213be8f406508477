/- The walks of the document's quota: New, Close, Left. -/
import Derived.Test.YtgffcgigjiedpaaAdmitW
set_option linter.unusedVariables false
set_option maxRecDepth 100000
namespace Go.Proofs.Ytgffcgigjiedpaa
open Go.RowKit

theorem five_ok {f : Five} (h4 : BudgetOk (f 4)) (h : ∀ j : Nat, j < 4 → BudgetOk (f j)) : ∀ j : Nat, j < 5 → BudgetOk (f j) := fun j hj => by
  by_cases e : j = 4
  · subst e; exact h4
  · exact h j (by omega)
set_option maxHeartbeats 2000000 in
theorem rnew_yes {B : Nat} {w wr : World} {rs : List Res} (h : Has B w rs wr) (m : Int) (f : Five) (hok : NewOk m f) :
    Calls Try.prog 7 #[.int .i64 m, .int .i64 (f 4), .agg #[.int .i64 (f 0), .int .i64 (f 1), .int .i64 (f 2), .int .i64 (f 3)]] wr fun e w' => ∃ q, e = .returned (.tuple #[.pointer (some ⟨q, 0, none⟩), .int .i64 0]) ∧ Has B w (BlockR q (r7 m 0 f) :: rs) w' := by
  obtain ⟨h1, h2, h3⟩ := hok
  obtain ⟨h4, h5⟩ := h3 4 (by decide)
  have HO : Hid (∀ j : Nat, j < 4 → 0 ≤ f j ∧ f j ≤ 100000) := fun j hj => h3 j (by omega)
  have HS1 : Hid (Has B w (BlockR wr.heap.size [.int .i64 (f 0), .int .i64 (f 1), .int .i64 (f 2), .int .i64 (f 3)] :: rs) (wr.alloc (.cells #[.int .i64 (f 0), .int .i64 (f 1), .int .i64 (f 2), .int .i64 (f 3)] 22))) := h.box [.int .i64 (f 0), .int .i64 (f 1), .int .i64 (f 2), .int .i64 (f 3)] 22
  have HQ : Hid (∀ j : Nat, j < 4 → (wr.alloc (.cells #[.int .i64 (f 0), .int .i64 (f 1), .int .i64 (f 2), .int .i64 (f 3)] 22)).cell? ⟨wr.heap.size, j, none⟩ = some (.int .i64 (f j))) := fun j hj => by
    refine HS1.out.cells List.mem_cons_self j _ ?_
    rcases lt4 hj with rfl | rfl | rfl | rfl <;> rfl
  clear h h3
  go_enter Try.func7, Try.ntmps7
  go_wp2_with fail
  generalize wr.alloc (.cells #[.int .i64 (f 0), .int .i64 (f 1), .int .i64 (f 2), .int .i64 (f 3)] 22) = w1 at *
  generalize wr.heap.size = sb at *
  go_loop [8] (fun i => ∃ k : Nat, k ≤ 4 ∧ i = .int .i64 (k : Int)) (fun i => 4 - (intOf i).toNat)
  case atStart => exact ⟨0, Nat.zero_le _, rfl⟩
  case round =>
    obtain ⟨k, hk, rfl⟩ := hrel
    by_cases hlt : k < 4
    · have hltI : (k : Int) < 4 := by omega
      obtain ⟨o1, o2⟩ := HO.out k hlt
      have q1 := HQ.out k hlt
      clear HO HQ HS1
      generalize f k = z at *
      go_wp2_with fail
      exact ⟨⟨k + 1, by omega, by go_num⟩, by simp [intOf]; omega⟩
    · have hltI : ¬ (k : Int) < 4 := by omega
      have q0 := HQ.out 0 (by decide)
      have q1 := HQ.out 1 (by decide)
      have q2 := HQ.out 2 (by decide)
      have q3 := HQ.out 3 (by decide)
      have HS2 : Hid (Has B w (BlockR w1.heap.size (r7 m 0 f) :: rs) (w1.alloc (.cells #[.int .i64 m, .int .i64 0, .int .i64 (f 4), .int .i64 (f 0), .int .i64 (f 1), .int .i64 (f 2), .int .i64 (f 3)] 54))) := (HS1.out.box (r7 m 0 f) 54).keep1
      clear HO HQ HS1
      go_wp2_with fail
      go_ret2
      exact ⟨_, rfl, HS2.out⟩
set_option maxHeartbeats 2000000 in
theorem rnew_no {B : Nat} {w wr : World} {rs : List Res} (h : Has B w rs wr) (m : Int) (f : Five) (hok : ¬ NewOk m f) :
    Calls Try.prog 7 #[.int .i64 m, .int .i64 (f 4), .agg #[.int .i64 (f 0), .int .i64 (f 1), .int .i64 (f 2), .int .i64 (f 3)]] wr fun e w' => e = .returned (.tuple #[.pointer none, .int .i64 1]) ∧ Has B w rs w' := by
  have HS1 : Hid (Has B w (BlockR wr.heap.size [.int .i64 (f 0), .int .i64 (f 1), .int .i64 (f 2), .int .i64 (f 3)] :: rs) (wr.alloc (.cells #[.int .i64 (f 0), .int .i64 (f 1), .int .i64 (f 2), .int .i64 (f 3)] 22))) := h.box [.int .i64 (f 0), .int .i64 (f 1), .int .i64 (f 2), .int .i64 (f 3)] 22
  have HQ : Hid (∀ j : Nat, j < 4 → (wr.alloc (.cells #[.int .i64 (f 0), .int .i64 (f 1), .int .i64 (f 2), .int .i64 (f 3)] 22)).cell? ⟨wr.heap.size, j, none⟩ = some (.int .i64 (f j))) := fun j hj => by
    refine HS1.out.cells List.mem_cons_self j _ ?_
    rcases lt4 hj with rfl | rfl | rfl | rfl <;> rfl
  have HOK : Hid (¬ NewOk m f) := hok
  have HD : Hid (Has B w rs (wr.alloc (.cells #[.int .i64 (f 0), .int .i64 (f 1), .int .i64 (f 2), .int .i64 (f 3)] 22))) := HS1.out.drop
  clear h hok HS1
  by_cases h1 : m < 1
  · clear HQ HOK
    go_enter Try.func7, Try.ntmps7
    go_wp2_with fail
    go_ret2
    exact ⟨rfl, HD.out⟩
  by_cases h2 : 12 < m
  · clear HQ HOK
    go_enter Try.func7, Try.ntmps7
    go_wp2_with fail
    go_ret2
    exact ⟨rfl, HD.out⟩
  by_cases h4 : f 4 < 0
  · clear HQ HOK
    go_enter Try.func7, Try.ntmps7
    go_wp2_with fail
    go_ret2
    exact ⟨rfl, HD.out⟩
  by_cases h5 : 100000 < f 4
  · clear HQ HOK
    go_enter Try.func7, Try.ntmps7
    go_wp2_with fail
    go_ret2
    exact ⟨rfl, HD.out⟩
  go_enter Try.func7, Try.ntmps7
  go_wp2_with fail
  generalize wr.alloc (.cells #[.int .i64 (f 0), .int .i64 (f 1), .int .i64 (f 2), .int .i64 (f 3)] 22) = w1 at *
  generalize wr.heap.size = sb at *
  go_loop [8] (fun i => ∃ k : Nat, k ≤ 4 ∧ i = .int .i64 (k : Int) ∧ Hid (∀ j : Nat, j < k → BudgetOk (f j))) (fun i => 4 - (intOf i).toNat)
  case atStart => exact ⟨0, Nat.zero_le _, rfl, fun j hj => absurd hj (Nat.not_lt_zero _)⟩
  case round =>
    obtain ⟨k, hk, rfl, HP⟩ := hrel
    by_cases hlt : k < 4
    · have hltI : (k : Int) < 4 := by omega
      have q1 := HQ.out k hlt
      have HP2 : Hid (0 ≤ f k → f k ≤ 100000 → ∀ j : Nat, j < k + 1 → BudgetOk (f j)) := fun a b j hj => by
        by_cases e : j = k
        · subst e; exact ⟨a, b⟩
        · exact HP.out j (by omega)
      clear HQ HOK HP
      obtain ⟨z, hz⟩ : ∃ z, f k = z := ⟨_, rfl⟩
      rw [hz] at q1 HP2
      clear hz
      by_cases o1 : z < 0
      · clear HP2
        go_wp2_with fail
        go_ret2
        exact ⟨rfl, HD.out⟩
      by_cases o2 : 100000 < z
      · clear HP2
        go_wp2_with fail
        go_ret2
        exact ⟨rfl, HD.out⟩
      · have HP3 : Hid (∀ j : Nat, j < k + 1 → BudgetOk (f j)) := HP2.out (by omega) (by omega)
        clear HP2
        go_wp2_with fail
        exact ⟨⟨k + 1, by omega, by go_num, HP3⟩, by simp [intOf]; omega⟩
    · exact absurd ⟨by omega, by omega, five_ok ⟨by omega, by omega⟩ (fun j hj => HP.out j (by omega))⟩ HOK.out
theorem rclose_any {B : Nat} {w wr : World} {rs : List Res} (q : Nat) (m n : Int) (f : Five) (h : Has B w (BlockR q (r7 m n f) :: rs) wr) (hn : 0 ≤ n ∧ n ≤ 12) :
    Calls Try.prog 13 #[.pointer (some ⟨q, 0, none⟩)] wr fun e w' => e = .returned (.int .i64 (if n < 1 then 1 else 0)) ∧ Has B w (BlockR q (r7 m (if n < 1 then n else n - 1) f) :: rs) w' := by
  obtain ⟨c0, c1⟩ := h.cell List.mem_cons_self 1 _ rfl
  obtain ⟨n0, n1⟩ := hn
  by_cases hl : n < 1
  · have H : Hid (Has B w (BlockR q (r7 m n f) :: rs) wr) := h
    rw [if_pos hl, if_pos hl]
    have hz : (n == 0) = true := by simp; omega
    clear h
    go_enter Try.func13, Try.ntmps13
    go_wp2_with fail
    go_ret
    exact ⟨rfl, H.out⟩
  · have H : Hid (Has B w (BlockR q (r7 m (n - 1) f) :: rs) (wr.setCell ⟨q, 1, none⟩ (.int .i64 (n - 1)))) := h.put 1 (by show 1 < 7; omega) _
    rw [if_neg hl, if_neg hl]
    have hz : (n == 0) = false := by simp; omega
    clear h
    go_enter Try.func13, Try.ntmps13
    go_wp2_with fail
    go_ret
    exact ⟨rfl, H.out⟩
set_option maxHeartbeats 2000000 in
theorem rleft_any {B : Nat} {w wr : World} {rs : List Res} (q : Nat) (m n : Int) (f : Five) (h : Has B w rs wr) (hm : BlockR q (r7 m n f) ∈ rs) :
    Calls Try.prog 14 #[.pointer (some ⟨q, 0, none⟩)] wr fun e w' => e = .returned (.tuple #[.int .i64 n, .agg #[.int .i64 (f 4), .int .i64 (f 0), .int .i64 (f 1), .int .i64 (f 2), .int .i64 (f 3)]]) ∧ Has B w rs w' := by
  have HS1 : Hid (Has B w (BlockR wr.heap.size [.int .i64 (f 4), .int .i64 (f 0), .int .i64 (f 1), .int .i64 (f 2), .int .i64 (f 3)] :: rs) ((wr.alloc (.cells #[.int .i64 (f 4), .int .i64 (f 0), .int .i64 (f 1), .int .i64 (f 2), .int .i64 (f 3)] 32)).drew)) := (h.box [.int .i64 (f 4), .int .i64 (f 0), .int .i64 (f 1), .int .i64 (f 2), .int .i64 (f 3)] 32).below (Below.refl _ _).drew
  have HF : Hid (Has B w rs ((wr.alloc (.cells #[.int .i64 (f 4), .int .i64 (f 0), .int .i64 (f 1), .int .i64 (f 2), .int .i64 (f 3)] 32)).drew)) := HS1.out.drop
  have hl := h.cells hm
  have c0 := hl 1 _ rfl
  have d0 := hl 2 _ rfl
  have d1 := hl 3 _ rfl
  have d2 := hl 4 _ rfl
  have d3 := hl 5 _ rfl
  have d4 := hl 6 _ rfl
  have hq := block_lt_of_cell c0
  simp only at hq
  have hq1 : ¬ q = wr.heap.size := by omega
  clear h hm hl HS1
  go_enter Try.func14, Try.ntmps14
  go_wp2_with fail
  go_region
  all_goals (go_wp2; exact bodyPost_ret (results_tmp_five rfl _ _ wr.heap.size _ _ _ _ _ _ rfl (by go_simp) (by go_simp) (by go_simp) (by go_simp) (by go_simp) Try.underlying32 rfl (by kernel_rfl)) rfl ⟨rfl, HF.out⟩)
end Go.Proofs.Ytgffcgigjiedpaa
