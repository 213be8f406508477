/- The walk of the document's Admit. -/
import Derived.Test.YtgffcgigjiedpaaRefW
set_option linter.unusedVariables false
set_option maxRecDepth 100000
namespace Go.Proofs.Ytgffcgigjiedpaa
open Go.RowKit

/-- The orchestrator's less by its part, and the first k participants'. -/
def lessR (f c : Five) (k : Nat) : Five := fun j => if j = 4 then f 4 - c 4 else if j < k then f j - c j else f j
theorem lessR_zero (f c : Five) (m n : Int) : r7 m n (upd f 4 (f 4 - c 4)) = r7 m n (lessR f c 0) := r7_congr (fun j hj => by unfold upd lessR; by_cases e : j = 4 <;> simp [e])
theorem lessR_step (f c : Five) (k : Nat) (hk : k < 4) (m n : Int) : r7 m n (upd (lessR f c k) k (f k - c k)) = r7 m n (lessR f c (k + 1)) := r7_congr (fun j hj => by
  unfold upd lessR
  by_cases e : j = k
  · subst e; simp [show ¬ j = 4 by omega]
  · by_cases e4 : j = 4
    · subst e4; simp [e]
    · by_cases h : j < k
      · simp [e, e4, h, show j < k + 1 by omega]
      · simp [e, e4, h, show ¬ j < k + 1 by omega])
theorem lessR_end (f c : Five) (m n : Int) : r7 m n (lessR f c 4) = r7 m n (less f c 5) := r7_congr (fun j hj => by
  unfold lessR less
  by_cases e4 : j = 4
  · subst e4; simp
  · simp [e4, show j < 4 by omega, hj])
theorem lessR_at (f c : Five) (k : Nat) (hk : k < 4) : lessR f c k k = f k := by unfold lessR; simp [show ¬ k = 4 by omega]
theorem lessR_same (f c : Five) (k : Nat) : lessR f c k 4 = f 4 - c 4 := rfl
def k5 (c : Five) : List Value := [.int .i64 (c 4), .int .i64 (c 0), .int .i64 (c 1), .int .i64 (c 2), .int .i64 (c 3)]
theorem k5_at (c : Five) (j : Nat) (hj : j < 4) : (k5 c)[1 + j]? = some (.int .i64 (c j)) := by rcases lt4 hj with rfl | rfl | rfl | rfl <;> rfl
set_option maxHeartbeats 4000000 in
theorem radmit_A {B : Nat} {w wr : World} {rs : List Res} (q : Nat) (m n : Int) (f c : Five) (h : Has B w (BlockR q (r7 m n f) :: rs) wr) (hf : ∀ j : Nat, j < 5 → 0 ≤ f j ∧ f j ≤ 100000) (hn : 0 ≤ n ∧ n ≤ 12) (hA : ¬ ∀ j : Nat, j < 5 → 0 ≤ c j) :
    Calls Try.prog 11 #[.pointer (some ⟨q, 0, none⟩), .agg #[.int .i64 (c 4), .int .i64 (c 0), .int .i64 (c 1), .int .i64 (c 2), .int .i64 (c 3)]] wr fun e w' => e = .returned (.int .i64 1) ∧ Has B w (BlockR q (r7 m n f) :: rs) w' := by
  have HF : Hid (∀ j : Nat, j < 5 → 0 ≤ f j ∧ f j ≤ 100000) := hf
  have HS1 : Hid (Has B w (BlockR q (r7 m n f) :: BlockR wr.heap.size (k5 c) :: rs) (wr.alloc (.cells #[.int .i64 (c 4), .int .i64 (c 0), .int .i64 (c 1), .int .i64 (c 2), .int .i64 (c 3)] 32))) := (h.box (k5 c) 32).perm (List.Perm.swap _ _ _)
  obtain ⟨n0, n1⟩ := hn
  have HA : Hid (¬ ∀ j : Nat, j < 5 → 0 ≤ c j) := hA
  clear h hf
  have hc4 := HS1.out.cells (q := wr.heap.size) (vs := k5 c) (by simp) 0 _ rfl
  clear hA 
  by_cases hA4 : c 4 < 0
  · clear HA HF
    go_enter Try.func11, Try.ntmps11
    go_wp2_with fail
    go_ret
    exact ⟨rfl, HS1.out.keep1⟩
  go_enter Try.func11, Try.ntmps11
  go_wp2_with fail
  generalize (wr.alloc (.cells #[.int .i64 (c 4), .int .i64 (c 0), .int .i64 (c 1), .int .i64 (c 2), .int .i64 (c 3)] 32)) = w1 at *
  generalize wr.heap.size = cb at *
  clear hc4
  go_loop [5] (fun i => ∃ k : Nat, k ≤ 4 ∧ i = .int .i64 (k : Int) ∧ Hid (∀ j : Nat, j < k → 0 ≤ c j)) (fun i => 4 - (intOf i).toNat)
  case atStart => exact ⟨0, Nat.zero_le _, rfl, fun j hj => absurd hj (Nat.not_lt_zero _)⟩
  case round =>
    obtain ⟨k, hk, rfl, HP⟩ := hrel
    by_cases hlt : k < 4
    · have hltI : (k : Int) < 4 := by omega
      have e1 := HS1.out.cells (q := cb) (vs := k5 c) (by simp) (1 + k) _ (k5_at c k hlt)
      have HP2 : Hid (0 ≤ c k → ∀ j : Nat, j < k + 1 → 0 ≤ c j) := fun a j hj => by
        by_cases e : j = k
        · subst e; exact a
        · exact HP.out j (by omega)
      clear HA HF HP
      obtain ⟨z, hz⟩ : ∃ z, c k = z := ⟨_, rfl⟩
      rw [hz] at e1 HP2
      clear hz
      by_cases o1 : z < 0
      · clear HP2
        go_wp2_with fail
        go_ret
        exact ⟨rfl, HS1.out.keep1⟩
      · have HP3 : Hid (∀ j : Nat, j < k + 1 → 0 ≤ c j) := HP2.out (by omega)
        clear HP2 HS1
        go_wp2_with fail
        exact ⟨⟨k + 1, by omega, by go_num, HP3⟩, by simp [intOf]; omega⟩
    · exact absurd (fun j hj => by
        by_cases e : j = 4
        · subst e; omega
        · exact HP.out j (by omega)) HA.out

set_option maxHeartbeats 4000000 in
theorem radmit_B {B : Nat} {w wr : World} {rs : List Res} (q : Nat) (m n : Int) (f c : Five) (h : Has B w (BlockR q (r7 m n f) :: rs) wr) (hf : ∀ j : Nat, j < 5 → 0 ≤ f j ∧ f j ≤ 100000) (hn : 0 ≤ n ∧ n ≤ 12) (hA : ∀ j : Nat, j < 5 → 0 ≤ c j) (hB : m ≤ n) :
    Calls Try.prog 11 #[.pointer (some ⟨q, 0, none⟩), .agg #[.int .i64 (c 4), .int .i64 (c 0), .int .i64 (c 1), .int .i64 (c 2), .int .i64 (c 3)]] wr fun e w' => e = .returned (.int .i64 150) ∧ Has B w (BlockR q (r7 m n f) :: rs) w' := by
  have HF : Hid (∀ j : Nat, j < 5 → 0 ≤ f j ∧ f j ≤ 100000) := hf
  have HS1 : Hid (Has B w (BlockR q (r7 m n f) :: BlockR wr.heap.size (k5 c) :: rs) (wr.alloc (.cells #[.int .i64 (c 4), .int .i64 (c 0), .int .i64 (c 1), .int .i64 (c 2), .int .i64 (c 3)] 32))) := (h.box (k5 c) 32).perm (List.Perm.swap _ _ _)
  obtain ⟨n0, n1⟩ := hn
  have HA : Hid (∀ j : Nat, j < 5 → 0 ≤ c j) := hA
  clear h hf
  have hc4 := HS1.out.cells (q := wr.heap.size) (vs := k5 c) (by simp) 0 _ rfl
  have hA4 : 0 ≤ c 4 := hA 4 (by decide)
  clear hA 
  go_enter Try.func11, Try.ntmps11
  go_wp2_with fail
  generalize (wr.alloc (.cells #[.int .i64 (c 4), .int .i64 (c 0), .int .i64 (c 1), .int .i64 (c 2), .int .i64 (c 3)] 32)) = w1 at *
  generalize wr.heap.size = cb at *
  clear hc4
  go_loop [5] (fun i => ∃ k : Nat, k ≤ 4 ∧ i = .int .i64 (k : Int)) (fun i => 4 - (intOf i).toNat)
  case atStart => exact ⟨0, Nat.zero_le _, rfl⟩
  case round =>
    obtain ⟨k, hk, rfl⟩ := hrel
    by_cases hlt : k < 4
    · have hltI : (k : Int) < 4 := by omega
      have e1 := HS1.out.cells (q := cb) (vs := k5 c) (by simp) (1 + k) _ (k5_at c k hlt)
      have e2 := HA.out k (by omega)
      clear HS1 HA HF 
      generalize c k = z at *
      go_wp2_with fail
      exact ⟨⟨k + 1, by omega, by go_num⟩, by simp [intOf]; omega⟩
    · have hltI : ¬ (k : Int) < 4 := by omega
      obtain ⟨a0, _⟩ := HS1.out.cell List.mem_cons_self 0 _ rfl
      obtain ⟨a1, _⟩ := HS1.out.cell List.mem_cons_self 1 _ rfl
      go_wp2_with fail
      go_quiet (fail)
      have HS4 : Hid (Has B w (BlockR q (r7 m n f) :: BlockR cb (k5 c) :: rs) (w1.drewN nq)) := HS1.out.below (below_drewN (Below.refl _ _) nq)
      clear HS1 a0 a1
      generalize w1.drewN nq = w4 at *
      go_wp2
      go_ret
      exact ⟨rfl, HS4.out.keep1⟩

set_option maxHeartbeats 4000000 in
theorem radmit_C {B : Nat} {w wr : World} {rs : List Res} (q : Nat) (m n : Int) (f c : Five) (h : Has B w (BlockR q (r7 m n f) :: rs) wr) (hf : ∀ j : Nat, j < 5 → 0 ≤ f j ∧ f j ≤ 100000) (hn : 0 ≤ n ∧ n ≤ 12) (hA : ∀ j : Nat, j < 5 → 0 ≤ c j) (hB : n < m) (hC : f 4 < c 4) :
    Calls Try.prog 11 #[.pointer (some ⟨q, 0, none⟩), .agg #[.int .i64 (c 4), .int .i64 (c 0), .int .i64 (c 1), .int .i64 (c 2), .int .i64 (c 3)]] wr fun e w' => e = .returned (.int .i64 151) ∧ Has B w (BlockR q (r7 m n f) :: rs) w' := by
  have HF : Hid (∀ j : Nat, j < 5 → 0 ≤ f j ∧ f j ≤ 100000) := hf
  have HS1 : Hid (Has B w (BlockR q (r7 m n f) :: BlockR wr.heap.size (k5 c) :: rs) (wr.alloc (.cells #[.int .i64 (c 4), .int .i64 (c 0), .int .i64 (c 1), .int .i64 (c 2), .int .i64 (c 3)] 32))) := (h.box (k5 c) 32).perm (List.Perm.swap _ _ _)
  obtain ⟨n0, n1⟩ := hn
  have HA : Hid (∀ j : Nat, j < 5 → 0 ≤ c j) := hA
  clear h hf
  have hc4 := HS1.out.cells (q := wr.heap.size) (vs := k5 c) (by simp) 0 _ rfl
  have hA4 : 0 ≤ c 4 := hA 4 (by decide)
  clear hA 
  go_enter Try.func11, Try.ntmps11
  go_wp2_with fail
  generalize (wr.alloc (.cells #[.int .i64 (c 4), .int .i64 (c 0), .int .i64 (c 1), .int .i64 (c 2), .int .i64 (c 3)] 32)) = w1 at *
  generalize wr.heap.size = cb at *
  clear hc4
  go_loop [5] (fun i => ∃ k : Nat, k ≤ 4 ∧ i = .int .i64 (k : Int)) (fun i => 4 - (intOf i).toNat)
  case atStart => exact ⟨0, Nat.zero_le _, rfl⟩
  case round =>
    obtain ⟨k, hk, rfl⟩ := hrel
    by_cases hlt : k < 4
    · have hltI : (k : Int) < 4 := by omega
      have e1 := HS1.out.cells (q := cb) (vs := k5 c) (by simp) (1 + k) _ (k5_at c k hlt)
      have e2 := HA.out k (by omega)
      clear HS1 HA HF 
      generalize c k = z at *
      go_wp2_with fail
      exact ⟨⟨k + 1, by omega, by go_num⟩, by simp [intOf]; omega⟩
    · have hltI : ¬ (k : Int) < 4 := by omega
      obtain ⟨a0, _⟩ := HS1.out.cell List.mem_cons_self 0 _ rfl
      obtain ⟨a1, _⟩ := HS1.out.cell List.mem_cons_self 1 _ rfl
      go_wp2_with fail
      go_quiet (fail)
      have HS4 : Hid (Has B w (BlockR q (r7 m n f) :: BlockR cb (k5 c) :: rs) (w1.drewN nq)) := HS1.out.below (below_drewN (Below.refl _ _) nq)
      clear HS1 a0 a1
      generalize w1.drewN nq = w4 at *
      obtain ⟨a2, _⟩ := HS4.out.cell List.mem_cons_self 2 _ rfl
      obtain ⟨e0, _⟩ := HS4.out.cell (q := cb) (vs := k5 c) (by simp) 0 _ rfl
      go_wp2_with fail
      go_quiet (fail)
      have HS5 : Hid (Has B w (BlockR q (r7 m n f) :: BlockR cb (k5 c) :: rs) (w4.drewN nq)) := HS4.out.below (below_drewN (Below.refl _ _) nq)
      clear HS4 a2 e0
      generalize w4.drewN nq = w5 at *
      go_wp2
      go_ret
      exact ⟨rfl, HS5.out.keep1⟩

set_option maxHeartbeats 4000000 in
theorem radmit_D {B : Nat} {w wr : World} {rs : List Res} (q : Nat) (m n : Int) (f c : Five) (h : Has B w (BlockR q (r7 m n f) :: rs) wr) (hf : ∀ j : Nat, j < 5 → 0 ≤ f j ∧ f j ≤ 100000) (hn : 0 ≤ n ∧ n ≤ 12) (hA : ∀ j : Nat, j < 5 → 0 ≤ c j) (hB : n < m) (hC : c 4 ≤ f 4) (hD : ¬ ∀ j : Nat, j < 5 → c j ≤ f j) :
    Calls Try.prog 11 #[.pointer (some ⟨q, 0, none⟩), .agg #[.int .i64 (c 4), .int .i64 (c 0), .int .i64 (c 1), .int .i64 (c 2), .int .i64 (c 3)]] wr fun e w' => e = .returned (.int .i64 152) ∧ Has B w (BlockR q (r7 m n f) :: rs) w' := by
  have HF : Hid (∀ j : Nat, j < 5 → 0 ≤ f j ∧ f j ≤ 100000) := hf
  have HS1 : Hid (Has B w (BlockR q (r7 m n f) :: BlockR wr.heap.size (k5 c) :: rs) (wr.alloc (.cells #[.int .i64 (c 4), .int .i64 (c 0), .int .i64 (c 1), .int .i64 (c 2), .int .i64 (c 3)] 32))) := (h.box (k5 c) 32).perm (List.Perm.swap _ _ _)
  obtain ⟨n0, n1⟩ := hn
  have HA : Hid (∀ j : Nat, j < 5 → 0 ≤ c j) := hA
  have HD : Hid (¬ ∀ j : Nat, j < 5 → c j ≤ f j) := hD
  clear h hf
  have hc4 := HS1.out.cells (q := wr.heap.size) (vs := k5 c) (by simp) 0 _ rfl
  have hA4 : 0 ≤ c 4 := hA 4 (by decide)
  clear hA hD
  go_enter Try.func11, Try.ntmps11
  go_wp2_with fail
  generalize (wr.alloc (.cells #[.int .i64 (c 4), .int .i64 (c 0), .int .i64 (c 1), .int .i64 (c 2), .int .i64 (c 3)] 32)) = w1 at *
  generalize wr.heap.size = cb at *
  clear hc4
  go_loop [5] (fun i => ∃ k : Nat, k ≤ 4 ∧ i = .int .i64 (k : Int)) (fun i => 4 - (intOf i).toNat)
  case atStart => exact ⟨0, Nat.zero_le _, rfl⟩
  case round =>
    obtain ⟨k, hk, rfl⟩ := hrel
    by_cases hlt : k < 4
    · have hltI : (k : Int) < 4 := by omega
      have e1 := HS1.out.cells (q := cb) (vs := k5 c) (by simp) (1 + k) _ (k5_at c k hlt)
      have e2 := HA.out k (by omega)
      clear HS1 HA HF HD
      generalize c k = z at *
      go_wp2_with fail
      exact ⟨⟨k + 1, by omega, by go_num⟩, by simp [intOf]; omega⟩
    · have hltI : ¬ (k : Int) < 4 := by omega
      obtain ⟨a0, _⟩ := HS1.out.cell List.mem_cons_self 0 _ rfl
      obtain ⟨a1, _⟩ := HS1.out.cell List.mem_cons_self 1 _ rfl
      go_wp2_with fail
      go_quiet (fail)
      have HS4 : Hid (Has B w (BlockR q (r7 m n f) :: BlockR cb (k5 c) :: rs) (w1.drewN nq)) := HS1.out.below (below_drewN (Below.refl _ _) nq)
      clear HS1 a0 a1
      generalize w1.drewN nq = w4 at *
      obtain ⟨a2, _⟩ := HS4.out.cell List.mem_cons_self 2 _ rfl
      obtain ⟨e0, _⟩ := HS4.out.cell (q := cb) (vs := k5 c) (by simp) 0 _ rfl
      go_wp2_with fail
      go_quiet (fail)
      have HS5 : Hid (Has B w (BlockR q (r7 m n f) :: BlockR cb (k5 c) :: rs) (w4.drewN nq)) := HS4.out.below (below_drewN (Below.refl _ _) nq)
      clear HS4 a2 e0
      generalize w4.drewN nq = w5 at *
      go_wp2_with fail
      go_loopw [6] (fun i wq => ∃ k : Nat, k ≤ 4 ∧ i = .int .i64 (k : Int) ∧ Hid (Has B w (BlockR q (r7 m n f) :: BlockR cb (k5 c) :: rs) wq) ∧ Hid (∀ j : Nat, j < k → c j ≤ f j)) (fun i _ => 4 - (intOf i).toNat)
      case atStart => exact ⟨0, Nat.zero_le _, rfl, HS5, fun j hj => absurd hj (Nat.not_lt_zero _)⟩
      case round =>
        obtain ⟨k, hk, rfl, HS, HP⟩ := hrel
        clear HS5
        by_cases hlt : k < 4
        · have hltI : (k : Int) < 4 := by omega
          have e1 := HS.out.cells (q := cb) (vs := k5 c) (by simp) (1 + k) _ (k5_at c k hlt)
          have e2 := HS.out.cells List.mem_cons_self (3 + k) _ (r7_at m n f k hlt)
          have HS6 : Hid (∀ x, Has B w (BlockR q (r7 m n f) :: BlockR cb (k5 c) :: rs) (wr.drewN x)) := fun x => HS.out.below (below_drewN (Below.refl _ _) x)
          have HP2 : Hid (c k ≤ f k → ∀ j : Nat, j < k + 1 → c j ≤ f j) := fun a j hj => by
            by_cases e : j = k
            · subst e; exact a
            · exact HP.out j (by omega)
          have HK : Hid (∀ x, Has B w (BlockR q (r7 m n f) :: rs) (wr.drewN x)) := fun x => (HS6.out x).keep1
          clear HA HF HP HD HS
          obtain ⟨z, hz⟩ : ∃ z, c k = z := ⟨_, rfl⟩
          obtain ⟨y, hy⟩ : ∃ y, f k = y := ⟨_, rfl⟩
          rw [hz] at e1 HP2
          rw [hy] at e2 HP2
          clear hz hy
          by_cases o1 : y < z
          · clear HP2 HS6
            go_wp2_with fail
            go_quiet (fail)
            go_wp2
            go_ret
            exact ⟨rfl, HK.out _⟩
          · have HP3 : Hid (∀ j : Nat, j < k + 1 → c j ≤ f j) := HP2.out (by omega)
            clear HP2 HK
            go_wp2_with fail
            go_quiet (fail)
            go_wp2
            exact ⟨⟨k + 1, by omega, by go_num, HS6.out _, HP3⟩, by simp [intOf]; omega⟩
        · exact absurd (fun j hj => by
            by_cases e : j = 4
            · subst e; omega
            · exact HP.out j (by omega)) HD.out

set_option maxHeartbeats 4000000 in
theorem radmit_E {B : Nat} {w wr : World} {rs : List Res} (q : Nat) (m n : Int) (f c : Five) (h : Has B w (BlockR q (r7 m n f) :: rs) wr) (hf : ∀ j : Nat, j < 5 → 0 ≤ f j ∧ f j ≤ 100000) (hn : 0 ≤ n ∧ n ≤ 12) (hA : ∀ j : Nat, j < 5 → 0 ≤ c j) (hB : n < m) (hC : c 4 ≤ f 4) (hD : ∀ j : Nat, j < 5 → c j ≤ f j) :
    Calls Try.prog 11 #[.pointer (some ⟨q, 0, none⟩), .agg #[.int .i64 (c 4), .int .i64 (c 0), .int .i64 (c 1), .int .i64 (c 2), .int .i64 (c 3)]] wr fun e w' => e = .returned (.int .i64 0) ∧ Has B w (BlockR q (r7 m (n + 1) (less f c 5)) :: rs) w' := by
  have HF : Hid (∀ j : Nat, j < 5 → 0 ≤ f j ∧ f j ≤ 100000) := hf
  have HS1 : Hid (Has B w (BlockR q (r7 m n f) :: BlockR wr.heap.size (k5 c) :: rs) (wr.alloc (.cells #[.int .i64 (c 4), .int .i64 (c 0), .int .i64 (c 1), .int .i64 (c 2), .int .i64 (c 3)] 32))) := (h.box (k5 c) 32).perm (List.Perm.swap _ _ _)
  obtain ⟨n0, n1⟩ := hn
  have HA : Hid (∀ j : Nat, j < 5 → 0 ≤ c j) := hA
  have HD : Hid (∀ j : Nat, j < 5 → c j ≤ f j) := hD
  clear h hf
  have hc4 := HS1.out.cells (q := wr.heap.size) (vs := k5 c) (by simp) 0 _ rfl
  have hA4 : 0 ≤ c 4 := hA 4 (by decide)
  clear hA hD
  go_enter Try.func11, Try.ntmps11
  go_wp2_with fail
  generalize (wr.alloc (.cells #[.int .i64 (c 4), .int .i64 (c 0), .int .i64 (c 1), .int .i64 (c 2), .int .i64 (c 3)] 32)) = w1 at *
  generalize wr.heap.size = cb at *
  clear hc4
  go_loop [5] (fun i => ∃ k : Nat, k ≤ 4 ∧ i = .int .i64 (k : Int)) (fun i => 4 - (intOf i).toNat)
  case atStart => exact ⟨0, Nat.zero_le _, rfl⟩
  case round =>
    obtain ⟨k, hk, rfl⟩ := hrel
    by_cases hlt : k < 4
    · have hltI : (k : Int) < 4 := by omega
      have e1 := HS1.out.cells (q := cb) (vs := k5 c) (by simp) (1 + k) _ (k5_at c k hlt)
      have e2 := HA.out k (by omega)
      clear HS1 HA HF HD
      generalize c k = z at *
      go_wp2_with fail
      exact ⟨⟨k + 1, by omega, by go_num⟩, by simp [intOf]; omega⟩
    · have hltI : ¬ (k : Int) < 4 := by omega
      obtain ⟨a0, _⟩ := HS1.out.cell List.mem_cons_self 0 _ rfl
      obtain ⟨a1, _⟩ := HS1.out.cell List.mem_cons_self 1 _ rfl
      go_wp2_with fail
      go_quiet (fail)
      have HS4 : Hid (Has B w (BlockR q (r7 m n f) :: BlockR cb (k5 c) :: rs) (w1.drewN nq)) := HS1.out.below (below_drewN (Below.refl _ _) nq)
      clear HS1 a0 a1
      generalize w1.drewN nq = w4 at *
      obtain ⟨a2, _⟩ := HS4.out.cell List.mem_cons_self 2 _ rfl
      obtain ⟨e0, _⟩ := HS4.out.cell (q := cb) (vs := k5 c) (by simp) 0 _ rfl
      go_wp2_with fail
      go_quiet (fail)
      have HS5 : Hid (Has B w (BlockR q (r7 m n f) :: BlockR cb (k5 c) :: rs) (w4.drewN nq)) := HS4.out.below (below_drewN (Below.refl _ _) nq)
      clear HS4 a2 e0
      generalize w4.drewN nq = w5 at *
      go_wp2_with fail
      go_loopw [6] (fun i wq => ∃ k : Nat, k ≤ 4 ∧ i = .int .i64 (k : Int) ∧ Hid (Has B w (BlockR q (r7 m n f) :: BlockR cb (k5 c) :: rs) wq)) (fun i _ => 4 - (intOf i).toNat)
      case atStart => exact ⟨0, Nat.zero_le _, rfl, HS5⟩
      case round =>
        obtain ⟨k, hk, rfl, HS⟩ := hrel
        clear HS5
        by_cases hlt : k < 4
        · have hltI : (k : Int) < 4 := by omega
          have e1 := HS.out.cells (q := cb) (vs := k5 c) (by simp) (1 + k) _ (k5_at c k hlt)
          have e2 := HS.out.cells List.mem_cons_self (3 + k) _ (r7_at m n f k hlt)
          have HS6 : Hid (∀ x, Has B w (BlockR q (r7 m n f) :: BlockR cb (k5 c) :: rs) (wr.drewN x)) := fun x => HS.out.below (below_drewN (Below.refl _ _) x)
          have e3 := HD.out k (by omega)
          clear HS HA HF HD
          generalize c k = z at *
          generalize f k = y at *
          go_wp2_with fail
          go_quiet (fail)
          go_wp2
          exact ⟨⟨k + 1, by omega, by go_num, HS6.out _⟩, by simp [intOf]; omega⟩
        · have hltI : ¬ (k : Int) < 4 := by omega
          obtain ⟨g1, g2⟩ := HS.out.cell List.mem_cons_self 1 _ rfl
          have HS7 : Hid (Has B w (BlockR q (r7 m (n + 1) f) :: BlockR cb (k5 c) :: rs) (wr.setCell ⟨q, 1, none⟩ (.int .i64 (n + 1)))) := HS.out.put 1 (by show 1 < 7; omega) _
          clear HS
          go_wp2_with fail
          generalize (wr.setCell ⟨q, 1, none⟩ (.int .i64 (n + 1))) = w7 at *
          clear g1 g2
          obtain ⟨i1, i2⟩ := HS7.out.cell List.mem_cons_self 2 _ rfl
          obtain ⟨i3, _⟩ := HS7.out.cell (q := cb) (vs := k5 c) (by simp) 0 _ rfl
          have HS8 : Hid (Has B w (BlockR q (r7 m (n + 1) (lessR f c 0)) :: BlockR cb (k5 c) :: rs) (w7.setCell ⟨q, 2, none⟩ (.int .i64 (f 4 - c 4))).drew) := by
            have x := HS7.out.put 2 (by show 2 < 7; omega) (.int .i64 (f 4 - c 4))
            rw [r7_set4, lessR_zero] at x
            exact x.below (Below.refl _ _).drew
          have b4 := HF.out 4 (by decide)
          have HF4 : Hid (0 ≤ f 4 ∧ f 4 ≤ 100000) := b4
          obtain ⟨b5, b6⟩ := b4
          clear HS7
          go_region
          clear i1 i2 i3
          generalize (w7.setCell ⟨q, 2, none⟩ (.int .i64 (f 4 - c 4))).drew = w8 at *
          go_wp2_with fail
          go_loopw [7] (fun i wq => ∃ k : Nat, k ≤ 4 ∧ i = .int .i64 (k : Int) ∧ Hid (Has B w (BlockR q (r7 m (n + 1) (lessR f c k)) :: BlockR cb (k5 c) :: rs) wq)) (fun i _ => 4 - (intOf i).toNat)
          case atStart => exact ⟨0, Nat.zero_le _, rfl, HS8⟩
          case round =>
            obtain ⟨k, hk, rfl, HS⟩ := hrel
            clear HS8 HF4 b5 b6
            by_cases hlt : k < 4
            · have hltI : (k : Int) < 4 := by omega
              have e1 := HS.out.cells (q := cb) (vs := k5 c) (by simp) (1 + k) _ (k5_at c k hlt)
              obtain ⟨e2, e3⟩ := HS.out.cell List.mem_cons_self (3 + k) _ (r7_at m (n + 1) (lessR f c k) k hlt)
              rw [lessR_at f c k hlt] at e2
              obtain ⟨b5, b6⟩ := HF.out k (by omega)
              have b7 := HA.out k (by omega)
              have b8 := HD.out k (by omega)
              have HS9 : Hid (Has B w (BlockR q (r7 m (n + 1) (lessR f c (k + 1))) :: BlockR cb (k5 c) :: rs) (wr.setCell ⟨q, 3 + k, none⟩ (.int .i64 (f k - c k))).drew) := by
                have x := HS.out.put (3 + k) (by show 3 + k < 7; omega) (.int .i64 (f k - c k))
                rw [r7_set m (n + 1) (lessR f c k) k _ hlt, lessR_step f c k hlt] at x
                exact x.below (Below.refl _ _).drew
              clear HS HA HF HD
              generalize c k = z at *
              generalize f k = y at *
              go_wp2_with fail
              go_region
              all_goals (go_wp2; exact ⟨⟨k + 1, by omega, by go_num, HS9⟩, by simp [intOf]; omega⟩)
            · have hltI : ¬ (k : Int) < 4 := by omega
              have HS9 : Hid (Has B w (BlockR q (r7 m (n + 1) (less f c 5)) :: rs) wr) := by
                have x := HS.out
                rw [show k = 4 by omega, lessR_end] at x
                exact x.keep1
              clear HS HA HF HD
              go_wp2_with fail
              go_ret
              exact ⟨rfl, HS9.out⟩
end Go.Proofs.Ytgffcgigjiedpaa
