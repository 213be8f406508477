/- The walk of Admit. -/
import Derived.Test.YtgffcgigjiedpaaOpsW
set_option linter.unusedVariables false
set_option maxRecDepth 100000
namespace Go.Proofs.Ytgffcgigjiedpaa
open Go.RowKit

abbrev vs5 (a b c d e : Int) : List Value := [.int .i64 a, .int .i64 b, .int .i64 c, .int .i64 d, .int .i64 e]
set_option maxHeartbeats 4000000 in
theorem admit_A {B : Nat} {w wr : World} {rs : List Res} (q : Nat) (m n : Int) (f c : Five) (h : Has B w (BlockR q (q7 m n f) :: rs) wr) (hf : ∀ j : Nat, j < 5 → 0 ≤ f j ∧ f j ≤ 100000) (hn : 0 ≤ n ∧ n ≤ 12) (hA : ¬ ∀ j : Nat, j < 5 → 0 ≤ c j) :
    Calls Try.prog 10 #[.pointer (some ⟨q, 0, none⟩), .agg #[.int .i64 (c 4), .int .i64 (c 0), .int .i64 (c 1), .int .i64 (c 2), .int .i64 (c 3)]] wr fun e w' => e = .returned (.int .i64 1) ∧ Has B w (BlockR q (q7 m n f) :: rs) w' := by
  have H : Hid (Has B w (BlockR q (q7 m n f) :: rs) wr) := h
  have CU : Hid (∀ wq, Calls Try.prog 15 #[.int .i64 (c 4), .agg #[.int .i64 (c 0), .int .i64 (c 1), .int .i64 (c 2), .int .i64 (c 3)]] wq fun e w' => e = .returned (.agg #[.int .i64 (c 0), .int .i64 (c 1), .int .i64 (c 2), .int .i64 (c 3), .int .i64 (c 4)]) ∧ Below wq.heap.size wq w') := fun wq => unitsOf_any wq c
  have CA : Hid (∀ wq, Calls Try.prog 16 #[.agg #[.int .i64 (c 0), .int .i64 (c 1), .int .i64 (c 2), .int .i64 (c 3), .int .i64 (c 4)], .func (.func 19) #[] #[]] wq fun e w' => e = .returned (.bool false) ∧ Below wq.heap.size wq w') := fun wq => by
    have k := all_asked wq c
    rw [tt_no hA] at k
    exact k
  obtain ⟨n0, n1⟩ := hn
  clear h hA hf 
  generalize less f c 5 = L at *
  generalize c 0 = c0 at *
  generalize c 1 = c1 at *
  generalize c 2 = c2 at *
  generalize c 3 = c3 at *
  generalize c 4 = c4 at *
  go_enter Try.func10, Try.ntmps10
  go_wp2_with fail
  refine (CU.out _).mono ?_
  rintro e w1 ⟨rfl, b1⟩
  have HS1 : Hid (Has B w (BlockR w1.heap.size (vs5 c0 c1 c2 c3 c4) :: BlockR wr.heap.size (vs5 c4 c0 c1 c2 c3) :: BlockR q (q7 m n f) :: rs) (w1.alloc (.cells #[.int .i64 c0, .int .i64 c1, .int .i64 c2, .int .i64 c3, .int .i64 c4] 45))) := ((H.out.box (vs5 c4 c0 c1 c2 c3) 32).below b1).box (vs5 c0 c1 c2 c3 c4) 45
  clear b1 CU H
  go_wp2_with fail
  refine (CA.out _).mono ?_
  rintro e w2 ⟨rfl, b2⟩
  have HS2 : Hid (Has B w (BlockR w1.heap.size (vs5 c0 c1 c2 c3 c4) :: BlockR wr.heap.size (vs5 c4 c0 c1 c2 c3) :: BlockR q (q7 m n f) :: rs) w2) := HS1.out.below b2
  clear b2 HS1 CA
  generalize w1.heap.size = sb at *
  generalize wr.heap.size = cb at *
  go_wp2_with fail
  go_ret
  exact ⟨rfl, HS2.out.drop.drop⟩

set_option maxHeartbeats 4000000 in
theorem admit_B {B : Nat} {w wr : World} {rs : List Res} (q : Nat) (m n : Int) (f c : Five) (h : Has B w (BlockR q (q7 m n f) :: rs) wr) (hf : ∀ j : Nat, j < 5 → 0 ≤ f j ∧ f j ≤ 100000) (hn : 0 ≤ n ∧ n ≤ 12) (hA : ∀ j : Nat, j < 5 → 0 ≤ c j) (hB : m ≤ n) :
    Calls Try.prog 10 #[.pointer (some ⟨q, 0, none⟩), .agg #[.int .i64 (c 4), .int .i64 (c 0), .int .i64 (c 1), .int .i64 (c 2), .int .i64 (c 3)]] wr fun e w' => e = .returned (.int .i64 150) ∧ Has B w (BlockR q (q7 m n f) :: rs) w' := by
  have H : Hid (Has B w (BlockR q (q7 m n f) :: rs) wr) := h
  have CU : Hid (∀ wq, Calls Try.prog 15 #[.int .i64 (c 4), .agg #[.int .i64 (c 0), .int .i64 (c 1), .int .i64 (c 2), .int .i64 (c 3)]] wq fun e w' => e = .returned (.agg #[.int .i64 (c 0), .int .i64 (c 1), .int .i64 (c 2), .int .i64 (c 3), .int .i64 (c 4)]) ∧ Below wq.heap.size wq w') := fun wq => unitsOf_any wq c
  have CA : Hid (∀ wq, Calls Try.prog 16 #[.agg #[.int .i64 (c 0), .int .i64 (c 1), .int .i64 (c 2), .int .i64 (c 3), .int .i64 (c 4)], .func (.func 19) #[] #[]] wq fun e w' => e = .returned (.bool true) ∧ Below wq.heap.size wq w') := fun wq => by
    have k := all_asked wq c
    rw [tt_yes hA] at k
    exact k
  obtain ⟨n0, n1⟩ := hn
  clear h hA hf 
  generalize less f c 5 = L at *
  generalize c 0 = c0 at *
  generalize c 1 = c1 at *
  generalize c 2 = c2 at *
  generalize c 3 = c3 at *
  generalize c 4 = c4 at *
  go_enter Try.func10, Try.ntmps10
  go_wp2_with fail
  refine (CU.out _).mono ?_
  rintro e w1 ⟨rfl, b1⟩
  have HS1 : Hid (Has B w (BlockR w1.heap.size (vs5 c0 c1 c2 c3 c4) :: BlockR wr.heap.size (vs5 c4 c0 c1 c2 c3) :: BlockR q (q7 m n f) :: rs) (w1.alloc (.cells #[.int .i64 c0, .int .i64 c1, .int .i64 c2, .int .i64 c3, .int .i64 c4] 45))) := ((H.out.box (vs5 c4 c0 c1 c2 c3) 32).below b1).box (vs5 c0 c1 c2 c3 c4) 45
  clear b1 CU H
  go_wp2_with fail
  refine (CA.out _).mono ?_
  rintro e w2 ⟨rfl, b2⟩
  have HS2 : Hid (Has B w (BlockR w1.heap.size (vs5 c0 c1 c2 c3 c4) :: BlockR wr.heap.size (vs5 c4 c0 c1 c2 c3) :: BlockR q (q7 m n f) :: rs) w2) := HS1.out.below b2
  clear b2 HS1 CA
  generalize w1.heap.size = sb at *
  generalize wr.heap.size = cb at *
  obtain ⟨a0, _⟩ := HS2.out.cell (q := q) (vs := q7 m n f) (by simp) 0 _ rfl
  obtain ⟨a1, _⟩ := HS2.out.cell (q := q) (vs := q7 m n f) (by simp) 1 _ rfl
  go_wp2_with fail
  go_quiet (fail)
  have HS4 : Hid (Has B w (BlockR sb (vs5 c0 c1 c2 c3 c4) :: BlockR cb (vs5 c4 c0 c1 c2 c3) :: BlockR q (q7 m n f) :: rs) (w2.drewN nq)) := HS2.out.below (below_drewN (Below.refl _ _) nq)
  clear HS2 a0 a1
  generalize w2.drewN nq = w4 at *
  go_wp2
  go_ret
  exact ⟨rfl, HS4.out.drop.drop⟩

set_option maxHeartbeats 4000000 in
theorem admit_C {B : Nat} {w wr : World} {rs : List Res} (q : Nat) (m n : Int) (f c : Five) (h : Has B w (BlockR q (q7 m n f) :: rs) wr) (hf : ∀ j : Nat, j < 5 → 0 ≤ f j ∧ f j ≤ 100000) (hn : 0 ≤ n ∧ n ≤ 12) (hA : ∀ j : Nat, j < 5 → 0 ≤ c j) (hB : n < m) (hC : f 4 < c 4) :
    Calls Try.prog 10 #[.pointer (some ⟨q, 0, none⟩), .agg #[.int .i64 (c 4), .int .i64 (c 0), .int .i64 (c 1), .int .i64 (c 2), .int .i64 (c 3)]] wr fun e w' => e = .returned (.int .i64 151) ∧ Has B w (BlockR q (q7 m n f) :: rs) w' := by
  have H : Hid (Has B w (BlockR q (q7 m n f) :: rs) wr) := h
  have CU : Hid (∀ wq, Calls Try.prog 15 #[.int .i64 (c 4), .agg #[.int .i64 (c 0), .int .i64 (c 1), .int .i64 (c 2), .int .i64 (c 3)]] wq fun e w' => e = .returned (.agg #[.int .i64 (c 0), .int .i64 (c 1), .int .i64 (c 2), .int .i64 (c 3), .int .i64 (c 4)]) ∧ Below wq.heap.size wq w') := fun wq => unitsOf_any wq c
  have CA : Hid (∀ wq, Calls Try.prog 16 #[.agg #[.int .i64 (c 0), .int .i64 (c 1), .int .i64 (c 2), .int .i64 (c 3), .int .i64 (c 4)], .func (.func 19) #[] #[]] wq fun e w' => e = .returned (.bool true) ∧ Below wq.heap.size wq w') := fun wq => by
    have k := all_asked wq c
    rw [tt_yes hA] at k
    exact k
  obtain ⟨n0, n1⟩ := hn
  have CV : Hid (∀ wq sb cb, Has B w (BlockR sb (vs5 (c 0) (c 1) (c 2) (c 3) (c 4)) :: BlockR cb (vs5 (c 4) (c 0) (c 1) (c 2) (c 3)) :: BlockR q (q7 m n f) :: rs) wq → Calls Try.prog 20 #[.pointer (some ⟨q, 2, none⟩), .int .i64 4, .int .i64 (c 4)] wq fun e w' => e = .returned (.bool false) ∧ w' = wq) := fun wq sb cb hq => by
    have k := covers_any wq q m n f (hq.cells (by simp)) 4 (by decide) (c 4)
    rw [tt_no (show ¬ c 4 ≤ f 4 by omega)] at k
    exact k
  clear h hA hf hC 
  generalize less f c 5 = L at *
  generalize c 0 = c0 at *
  generalize c 1 = c1 at *
  generalize c 2 = c2 at *
  generalize c 3 = c3 at *
  generalize c 4 = c4 at *
  go_enter Try.func10, Try.ntmps10
  go_wp2_with fail
  refine (CU.out _).mono ?_
  rintro e w1 ⟨rfl, b1⟩
  have HS1 : Hid (Has B w (BlockR w1.heap.size (vs5 c0 c1 c2 c3 c4) :: BlockR wr.heap.size (vs5 c4 c0 c1 c2 c3) :: BlockR q (q7 m n f) :: rs) (w1.alloc (.cells #[.int .i64 c0, .int .i64 c1, .int .i64 c2, .int .i64 c3, .int .i64 c4] 45))) := ((H.out.box (vs5 c4 c0 c1 c2 c3) 32).below b1).box (vs5 c0 c1 c2 c3 c4) 45
  clear b1 CU H
  go_wp2_with fail
  refine (CA.out _).mono ?_
  rintro e w2 ⟨rfl, b2⟩
  have HS2 : Hid (Has B w (BlockR w1.heap.size (vs5 c0 c1 c2 c3 c4) :: BlockR wr.heap.size (vs5 c4 c0 c1 c2 c3) :: BlockR q (q7 m n f) :: rs) w2) := HS1.out.below b2
  clear b2 HS1 CA
  generalize w1.heap.size = sb at *
  generalize wr.heap.size = cb at *
  obtain ⟨a0, _⟩ := HS2.out.cell (q := q) (vs := q7 m n f) (by simp) 0 _ rfl
  obtain ⟨a1, _⟩ := HS2.out.cell (q := q) (vs := q7 m n f) (by simp) 1 _ rfl
  go_wp2_with fail
  go_quiet (fail)
  have HS4 : Hid (Has B w (BlockR sb (vs5 c0 c1 c2 c3 c4) :: BlockR cb (vs5 c4 c0 c1 c2 c3) :: BlockR q (q7 m n f) :: rs) (w2.drewN nq)) := HS2.out.below (below_drewN (Below.refl _ _) nq)
  clear HS2 a0 a1
  generalize w2.drewN nq = w4 at *
  have HS3 : Hid (∀ k, Has B w (BlockR sb (vs5 c0 c1 c2 c3 c4) :: BlockR cb (vs5 c4 c0 c1 c2 c3) :: BlockR q (q7 m n f) :: rs) (w4.drewN k)) := fun k => HS4.out.below (below_drewN (Below.refl _ _) k)
  have CV2 := fun k => CV.out _ _ _ (HS3.out k)
  obtain ⟨e0, _⟩ := HS4.out.cell (q := cb) (vs := vs5 c4 c0 c1 c2 c3) (by simp) 0 _ rfl
  clear HS4 CV
  go_wp2_with fail
  go_quiet ((go_at_call 20; with_reducible exact Calls.quiet_of_same (CV2 _)))
  have HS5 : Hid (Has B w (BlockR sb (vs5 c0 c1 c2 c3 c4) :: BlockR cb (vs5 c4 c0 c1 c2 c3) :: BlockR q (q7 m n f) :: rs) (w4.drewN nq)) := HS3.out _
  clear CV2 e0 HS3
  generalize w4.drewN nq = w5 at *
  go_wp2
  go_ret
  exact ⟨rfl, HS5.out.drop.drop⟩

set_option maxHeartbeats 4000000 in
theorem admit_D {B : Nat} {w wr : World} {rs : List Res} (q : Nat) (m n : Int) (f c : Five) (h : Has B w (BlockR q (q7 m n f) :: rs) wr) (hf : ∀ j : Nat, j < 5 → 0 ≤ f j ∧ f j ≤ 100000) (hn : 0 ≤ n ∧ n ≤ 12) (hA : ∀ j : Nat, j < 5 → 0 ≤ c j) (hB : n < m) (hC : c 4 ≤ f 4) (hD : ¬ ∀ j : Nat, j < 5 → c j ≤ f j) :
    Calls Try.prog 10 #[.pointer (some ⟨q, 0, none⟩), .agg #[.int .i64 (c 4), .int .i64 (c 0), .int .i64 (c 1), .int .i64 (c 2), .int .i64 (c 3)]] wr fun e w' => e = .returned (.int .i64 152) ∧ Has B w (BlockR q (q7 m n f) :: rs) w' := by
  have H : Hid (Has B w (BlockR q (q7 m n f) :: rs) wr) := h
  have CU : Hid (∀ wq, Calls Try.prog 15 #[.int .i64 (c 4), .agg #[.int .i64 (c 0), .int .i64 (c 1), .int .i64 (c 2), .int .i64 (c 3)]] wq fun e w' => e = .returned (.agg #[.int .i64 (c 0), .int .i64 (c 1), .int .i64 (c 2), .int .i64 (c 3), .int .i64 (c 4)]) ∧ Below wq.heap.size wq w') := fun wq => unitsOf_any wq c
  have CA : Hid (∀ wq, Calls Try.prog 16 #[.agg #[.int .i64 (c 0), .int .i64 (c 1), .int .i64 (c 2), .int .i64 (c 3), .int .i64 (c 4)], .func (.func 19) #[] #[]] wq fun e w' => e = .returned (.bool true) ∧ Below wq.heap.size wq w') := fun wq => by
    have k := all_asked wq c
    rw [tt_yes hA] at k
    exact k
  obtain ⟨n0, n1⟩ := hn
  have CV : Hid (∀ wq sb cb, Has B w (BlockR sb (vs5 (c 0) (c 1) (c 2) (c 3) (c 4)) :: BlockR cb (vs5 (c 4) (c 0) (c 1) (c 2) (c 3)) :: BlockR q (q7 m n f) :: rs) wq → Calls Try.prog 20 #[.pointer (some ⟨q, 2, none⟩), .int .i64 4, .int .i64 (c 4)] wq fun e w' => e = .returned (.bool true) ∧ w' = wq) := fun wq sb cb hq => by
    have k := covers_any wq q m n f (hq.cells (by simp)) 4 (by decide) (c 4)
    rw [tt_yes hC] at k
    exact k
  have CW : Hid (∀ wq sb cb, Has B w (BlockR sb (vs5 (c 0) (c 1) (c 2) (c 3) (c 4)) :: BlockR cb (vs5 (c 4) (c 0) (c 1) (c 2) (c 3)) :: BlockR q (q7 m n f) :: rs) wq → Calls Try.prog 16 #[.agg #[.int .i64 (c 0), .int .i64 (c 1), .int .i64 (c 2), .int .i64 (c 3), .int .i64 (c 4)], .func (.func 20) #[.pointer (some ⟨q, 2, none⟩)] #[]] wq fun e w' => e = .returned (.bool false) ∧ w'.cell? ⟨sb, 0, none⟩ = some (.int .i64 (c 0)) ∧ w'.cell? ⟨sb, 1, none⟩ = some (.int .i64 (c 1)) ∧ w'.cell? ⟨sb, 2, none⟩ = some (.int .i64 (c 2)) ∧ w'.cell? ⟨sb, 3, none⟩ = some (.int .i64 (c 3)) ∧ w'.cell? ⟨sb, 4, none⟩ = some (.int .i64 (c 4)) ∧ Hid (Has B w (BlockR sb (vs5 (c 0) (c 1) (c 2) (c 3) (c 4)) :: BlockR cb (vs5 (c 4) (c 0) (c 1) (c 2) (c 3)) :: BlockR q (q7 m n f) :: rs) w')) := fun wq sb cb hq => by
    have k := all_covers wq c q m n f (hq.cells (by simp))
    rw [tt_no hD] at k
    refine k.mono ?_
    rintro e w' ⟨he, hb⟩
    have hk := hq.below hb
    have hl := hk.cells List.mem_cons_self
    exact ⟨he, hl 0 _ rfl, hl 1 _ rfl, hl 2 _ rfl, hl 3 _ rfl, hl 4 _ rfl, hk⟩
  clear h hA hf hC hD
  generalize less f c 5 = L at *
  generalize c 0 = c0 at *
  generalize c 1 = c1 at *
  generalize c 2 = c2 at *
  generalize c 3 = c3 at *
  generalize c 4 = c4 at *
  go_enter Try.func10, Try.ntmps10
  go_wp2_with fail
  refine (CU.out _).mono ?_
  rintro e w1 ⟨rfl, b1⟩
  have HS1 : Hid (Has B w (BlockR w1.heap.size (vs5 c0 c1 c2 c3 c4) :: BlockR wr.heap.size (vs5 c4 c0 c1 c2 c3) :: BlockR q (q7 m n f) :: rs) (w1.alloc (.cells #[.int .i64 c0, .int .i64 c1, .int .i64 c2, .int .i64 c3, .int .i64 c4] 45))) := ((H.out.box (vs5 c4 c0 c1 c2 c3) 32).below b1).box (vs5 c0 c1 c2 c3 c4) 45
  clear b1 CU H
  go_wp2_with fail
  refine (CA.out _).mono ?_
  rintro e w2 ⟨rfl, b2⟩
  have HS2 : Hid (Has B w (BlockR w1.heap.size (vs5 c0 c1 c2 c3 c4) :: BlockR wr.heap.size (vs5 c4 c0 c1 c2 c3) :: BlockR q (q7 m n f) :: rs) w2) := HS1.out.below b2
  clear b2 HS1 CA
  generalize w1.heap.size = sb at *
  generalize wr.heap.size = cb at *
  obtain ⟨a0, _⟩ := HS2.out.cell (q := q) (vs := q7 m n f) (by simp) 0 _ rfl
  obtain ⟨a1, _⟩ := HS2.out.cell (q := q) (vs := q7 m n f) (by simp) 1 _ rfl
  go_wp2_with fail
  go_quiet (fail)
  have HS4 : Hid (Has B w (BlockR sb (vs5 c0 c1 c2 c3 c4) :: BlockR cb (vs5 c4 c0 c1 c2 c3) :: BlockR q (q7 m n f) :: rs) (w2.drewN nq)) := HS2.out.below (below_drewN (Below.refl _ _) nq)
  clear HS2 a0 a1
  generalize w2.drewN nq = w4 at *
  have HS3 : Hid (∀ k, Has B w (BlockR sb (vs5 c0 c1 c2 c3 c4) :: BlockR cb (vs5 c4 c0 c1 c2 c3) :: BlockR q (q7 m n f) :: rs) (w4.drewN k)) := fun k => HS4.out.below (below_drewN (Below.refl _ _) k)
  have CV2 := fun k => CV.out _ _ _ (HS3.out k)
  obtain ⟨e0, _⟩ := HS4.out.cell (q := cb) (vs := vs5 c4 c0 c1 c2 c3) (by simp) 0 _ rfl
  clear HS4 CV
  go_wp2_with fail
  go_quiet ((go_at_call 20; with_reducible exact Calls.quiet_of_same (CV2 _)))
  have HS5 : Hid (Has B w (BlockR sb (vs5 c0 c1 c2 c3 c4) :: BlockR cb (vs5 c4 c0 c1 c2 c3) :: BlockR q (q7 m n f) :: rs) (w4.drewN nq)) := HS3.out _
  clear CV2 e0 HS3
  generalize w4.drewN nq = w5 at *
  obtain ⟨i0, _⟩ := HS5.out.cell List.mem_cons_self 0 _ rfl
  obtain ⟨i1, _⟩ := HS5.out.cell List.mem_cons_self 1 _ rfl
  obtain ⟨i2, _⟩ := HS5.out.cell List.mem_cons_self 2 _ rfl
  obtain ⟨i3, _⟩ := HS5.out.cell List.mem_cons_self 3 _ rfl
  obtain ⟨i4, _⟩ := HS5.out.cell List.mem_cons_self 4 _ rfl
  have CW2 := CW.out _ _ _ (HS5.out.below (Below.refl _ _).drew)
  clear HS5 CW
  go_wp2_with fail
  go_region_held3 (fun w' => w'.cell? ⟨sb, 0, none⟩ = some (.int .i64 c0) ∧ w'.cell? ⟨sb, 1, none⟩ = some (.int .i64 c1) ∧ w'.cell? ⟨sb, 2, none⟩ = some (.int .i64 c2) ∧ w'.cell? ⟨sb, 3, none⟩ = some (.int .i64 c3) ∧ w'.cell? ⟨sb, 4, none⟩ = some (.int .i64 c4)) (go_keep) ((go_at_call 16; refine CW2.mono ?_; rintro e w6 ⟨rfl, m0, m1, m2, m3, m4, HS6⟩))
  clear CW2 i0 i1 i2 i3 i4
  go_wp2
  go_ret
  exact ⟨rfl, HS6.out.drop.drop⟩

set_option maxHeartbeats 4000000 in
theorem admit_E {B : Nat} {w wr : World} {rs : List Res} (q : Nat) (m n : Int) (f c : Five) (h : Has B w (BlockR q (q7 m n f) :: rs) wr) (hf : ∀ j : Nat, j < 5 → 0 ≤ f j ∧ f j ≤ 100000) (hn : 0 ≤ n ∧ n ≤ 12) (hA : ∀ j : Nat, j < 5 → 0 ≤ c j) (hB : n < m) (hC : c 4 ≤ f 4) (hD : ∀ j : Nat, j < 5 → c j ≤ f j) :
    Calls Try.prog 10 #[.pointer (some ⟨q, 0, none⟩), .agg #[.int .i64 (c 4), .int .i64 (c 0), .int .i64 (c 1), .int .i64 (c 2), .int .i64 (c 3)]] wr fun e w' => e = .returned (.int .i64 0) ∧ Has B w (BlockR q (q7 m (n + 1) (less f c 5)) :: rs) w' := by
  have H : Hid (Has B w (BlockR q (q7 m n f) :: rs) wr) := h
  have CU : Hid (∀ wq, Calls Try.prog 15 #[.int .i64 (c 4), .agg #[.int .i64 (c 0), .int .i64 (c 1), .int .i64 (c 2), .int .i64 (c 3)]] wq fun e w' => e = .returned (.agg #[.int .i64 (c 0), .int .i64 (c 1), .int .i64 (c 2), .int .i64 (c 3), .int .i64 (c 4)]) ∧ Below wq.heap.size wq w') := fun wq => unitsOf_any wq c
  have CA : Hid (∀ wq, Calls Try.prog 16 #[.agg #[.int .i64 (c 0), .int .i64 (c 1), .int .i64 (c 2), .int .i64 (c 3), .int .i64 (c 4)], .func (.func 19) #[] #[]] wq fun e w' => e = .returned (.bool true) ∧ Below wq.heap.size wq w') := fun wq => by
    have k := all_asked wq c
    rw [tt_yes hA] at k
    exact k
  obtain ⟨n0, n1⟩ := hn
  have CV : Hid (∀ wq sb cb, Has B w (BlockR sb (vs5 (c 0) (c 1) (c 2) (c 3) (c 4)) :: BlockR cb (vs5 (c 4) (c 0) (c 1) (c 2) (c 3)) :: BlockR q (q7 m n f) :: rs) wq → Calls Try.prog 20 #[.pointer (some ⟨q, 2, none⟩), .int .i64 4, .int .i64 (c 4)] wq fun e w' => e = .returned (.bool true) ∧ w' = wq) := fun wq sb cb hq => by
    have k := covers_any wq q m n f (hq.cells (by simp)) 4 (by decide) (c 4)
    rw [tt_yes hC] at k
    exact k
  have CW : Hid (∀ wq sb cb, Has B w (BlockR sb (vs5 (c 0) (c 1) (c 2) (c 3) (c 4)) :: BlockR cb (vs5 (c 4) (c 0) (c 1) (c 2) (c 3)) :: BlockR q (q7 m n f) :: rs) wq → Calls Try.prog 16 #[.agg #[.int .i64 (c 0), .int .i64 (c 1), .int .i64 (c 2), .int .i64 (c 3), .int .i64 (c 4)], .func (.func 20) #[.pointer (some ⟨q, 2, none⟩)] #[]] wq fun e w' => e = .returned (.bool true) ∧ w'.cell? ⟨sb, 0, none⟩ = some (.int .i64 (c 0)) ∧ w'.cell? ⟨sb, 1, none⟩ = some (.int .i64 (c 1)) ∧ w'.cell? ⟨sb, 2, none⟩ = some (.int .i64 (c 2)) ∧ w'.cell? ⟨sb, 3, none⟩ = some (.int .i64 (c 3)) ∧ w'.cell? ⟨sb, 4, none⟩ = some (.int .i64 (c 4)) ∧ Hid (Has B w (BlockR sb (vs5 (c 0) (c 1) (c 2) (c 3) (c 4)) :: BlockR cb (vs5 (c 4) (c 0) (c 1) (c 2) (c 3)) :: BlockR q (q7 m n f) :: rs) w')) := fun wq sb cb hq => by
    have k := all_covers wq c q m n f (hq.cells (by simp))
    rw [tt_yes hD] at k
    refine k.mono ?_
    rintro e w' ⟨he, hb⟩
    have hk := hq.below hb
    have hl := hk.cells List.mem_cons_self
    exact ⟨he, hl 0 _ rfl, hl 1 _ rfl, hl 2 _ rfl, hl 3 _ rfl, hl 4 _ rfl, hk⟩
  have CE : Hid (∀ wq sb cb, Has B w (BlockR sb (vs5 (c 0) (c 1) (c 2) (c 3) (c 4)) :: BlockR cb (vs5 (c 4) (c 0) (c 1) (c 2) (c 3)) :: BlockR q (q7 m n f) :: rs) wq → Calls Try.prog 21 #[.agg #[.int .i64 (c 0), .int .i64 (c 1), .int .i64 (c 2), .int .i64 (c 3), .int .i64 (c 4)], .func (.func 22) #[.pointer (some ⟨q, 2, none⟩)] #[]] wq fun e w' => e = .returned (.tuple #[]) ∧ w'.cell? ⟨sb, 0, none⟩ = some (.int .i64 (c 0)) ∧ w'.cell? ⟨sb, 1, none⟩ = some (.int .i64 (c 1)) ∧ w'.cell? ⟨sb, 2, none⟩ = some (.int .i64 (c 2)) ∧ w'.cell? ⟨sb, 3, none⟩ = some (.int .i64 (c 3)) ∧ w'.cell? ⟨sb, 4, none⟩ = some (.int .i64 (c 4)) ∧ w'.cell? ⟨q, 1, none⟩ = some (.int .i64 n) ∧ w'.frozen? ⟨q, 1, none⟩ = false ∧ Hid (Has B w (BlockR q (q7 m n (less f c 5)) :: rs) w')) := fun wq sb cb hq => by
    refine (each_any q m n f c (hq.perm (List.perm_middle (l₁ := [_, _]) (l₂ := rs))) (fun j hj => ⟨hA j hj, hD j hj, (hf j hj).2⟩)).mono ?_
    rintro e w' ⟨he, vs, hb⟩
    have hl := hb.cells (q := sb) (vs := vs5 (c 0) (c 1) (c 2) (c 3) (c 4)) (by simp)
    obtain ⟨x0, x1⟩ := hb.cell List.mem_cons_self 1 _ rfl
    exact ⟨he, hl 0 _ rfl, hl 1 _ rfl, hl 2 _ rfl, hl 3 _ rfl, hl 4 _ rfl, x0, x1, hb.keep1.keep1.keep1⟩
  clear h hA hf hC hD
  generalize less f c 5 = L at *
  generalize c 0 = c0 at *
  generalize c 1 = c1 at *
  generalize c 2 = c2 at *
  generalize c 3 = c3 at *
  generalize c 4 = c4 at *
  go_enter Try.func10, Try.ntmps10
  go_wp2_with fail
  refine (CU.out _).mono ?_
  rintro e w1 ⟨rfl, b1⟩
  have HS1 : Hid (Has B w (BlockR w1.heap.size (vs5 c0 c1 c2 c3 c4) :: BlockR wr.heap.size (vs5 c4 c0 c1 c2 c3) :: BlockR q (q7 m n f) :: rs) (w1.alloc (.cells #[.int .i64 c0, .int .i64 c1, .int .i64 c2, .int .i64 c3, .int .i64 c4] 45))) := ((H.out.box (vs5 c4 c0 c1 c2 c3) 32).below b1).box (vs5 c0 c1 c2 c3 c4) 45
  clear b1 CU H
  go_wp2_with fail
  refine (CA.out _).mono ?_
  rintro e w2 ⟨rfl, b2⟩
  have HS2 : Hid (Has B w (BlockR w1.heap.size (vs5 c0 c1 c2 c3 c4) :: BlockR wr.heap.size (vs5 c4 c0 c1 c2 c3) :: BlockR q (q7 m n f) :: rs) w2) := HS1.out.below b2
  clear b2 HS1 CA
  generalize w1.heap.size = sb at *
  generalize wr.heap.size = cb at *
  obtain ⟨a0, _⟩ := HS2.out.cell (q := q) (vs := q7 m n f) (by simp) 0 _ rfl
  obtain ⟨a1, _⟩ := HS2.out.cell (q := q) (vs := q7 m n f) (by simp) 1 _ rfl
  go_wp2_with fail
  go_quiet (fail)
  have HS4 : Hid (Has B w (BlockR sb (vs5 c0 c1 c2 c3 c4) :: BlockR cb (vs5 c4 c0 c1 c2 c3) :: BlockR q (q7 m n f) :: rs) (w2.drewN nq)) := HS2.out.below (below_drewN (Below.refl _ _) nq)
  clear HS2 a0 a1
  generalize w2.drewN nq = w4 at *
  have HS3 : Hid (∀ k, Has B w (BlockR sb (vs5 c0 c1 c2 c3 c4) :: BlockR cb (vs5 c4 c0 c1 c2 c3) :: BlockR q (q7 m n f) :: rs) (w4.drewN k)) := fun k => HS4.out.below (below_drewN (Below.refl _ _) k)
  have CV2 := fun k => CV.out _ _ _ (HS3.out k)
  obtain ⟨e0, _⟩ := HS4.out.cell (q := cb) (vs := vs5 c4 c0 c1 c2 c3) (by simp) 0 _ rfl
  clear HS4 CV
  go_wp2_with fail
  go_quiet ((go_at_call 20; with_reducible exact Calls.quiet_of_same (CV2 _)))
  have HS5 : Hid (Has B w (BlockR sb (vs5 c0 c1 c2 c3 c4) :: BlockR cb (vs5 c4 c0 c1 c2 c3) :: BlockR q (q7 m n f) :: rs) (w4.drewN nq)) := HS3.out _
  clear CV2 e0 HS3
  generalize w4.drewN nq = w5 at *
  obtain ⟨i0, _⟩ := HS5.out.cell List.mem_cons_self 0 _ rfl
  obtain ⟨i1, _⟩ := HS5.out.cell List.mem_cons_self 1 _ rfl
  obtain ⟨i2, _⟩ := HS5.out.cell List.mem_cons_self 2 _ rfl
  obtain ⟨i3, _⟩ := HS5.out.cell List.mem_cons_self 3 _ rfl
  obtain ⟨i4, _⟩ := HS5.out.cell List.mem_cons_self 4 _ rfl
  have CW2 := CW.out _ _ _ (HS5.out.below (Below.refl _ _).drew)
  clear HS5 CW
  go_wp2_with fail
  go_region_held3 (fun w' => w'.cell? ⟨sb, 0, none⟩ = some (.int .i64 c0) ∧ w'.cell? ⟨sb, 1, none⟩ = some (.int .i64 c1) ∧ w'.cell? ⟨sb, 2, none⟩ = some (.int .i64 c2) ∧ w'.cell? ⟨sb, 3, none⟩ = some (.int .i64 c3) ∧ w'.cell? ⟨sb, 4, none⟩ = some (.int .i64 c4)) (go_keep) ((go_at_call 16; refine CW2.mono ?_; rintro e w6 ⟨rfl, m0, m1, m2, m3, m4, HS6⟩))
  clear CW2 i0 i1 i2 i3 i4
  have CE2 := CE.out _ _ _ (HS6.out.below (Below.refl _ _).drew)
  clear HS6 CE
  go_wp2_with fail
  go_region_held3 (fun w' => w'.cell? ⟨sb, 0, none⟩ = some (.int .i64 c0) ∧ w'.cell? ⟨sb, 1, none⟩ = some (.int .i64 c1) ∧ w'.cell? ⟨sb, 2, none⟩ = some (.int .i64 c2) ∧ w'.cell? ⟨sb, 3, none⟩ = some (.int .i64 c3) ∧ w'.cell? ⟨sb, 4, none⟩ = some (.int .i64 c4)) (go_keep) ((go_at_call 21; refine CE2.mono ?_; rintro e w7 ⟨rfl, u0, u1, u2, u3, u4, d0, d1, HS7⟩))
  clear CE2 m0 m1 m2 m3 m4 u0 u1 u2 u3 u4
  have HS8 : Hid (Has B w (BlockR q (q7 m (n + 1) L) :: rs) (w7.setCell ⟨q, 1, none⟩ (.int .i64 (n + 1)))) := HS7.out.put 1 (by show 1 < 7; omega) _
  clear HS7
  go_wp2
  go_ret
  exact ⟨rfl, HS8.out⟩
end Go.Proofs.Ytgffcgigjiedpaa
