/- Admit and Close of both; live; the law QuotaMakes. -/
import Derived.Test.YtgffcgigjiedpaaRAdmitW
set_option linter.unusedVariables false
set_option maxRecDepth 100000
namespace Go.Proofs.Ytgffcgigjiedpaa
open Go.RowKit

/-- What an Admit did. -/
def AdmOk (m n : Int) (f c : Five) (code n' : Int) (f' : Five) : Prop := (code ≠ 0 ∧ n' = n ∧ f' = f) ∨ (code = 0 ∧ n' = n + 1 ∧ f' = less f c 5 ∧ n < m ∧ ∀ j : Nat, j < 5 → 0 ≤ c j ∧ c j ≤ f j)
theorem admit_any (m n : Int) (f c : Five) (hf : ∀ j : Nat, j < 5 → 0 ≤ f j ∧ f j ≤ 100000) (hn : 0 ≤ n ∧ n ≤ 12) : ∃ (code n' : Int) (f' : Five), AdmOk m n f c code n' f' ∧
    (∀ (B : Nat) (w wr : World) (rs : List Res) (q : Nat), Has B w (BlockR q (q7 m n f) :: rs) wr → Calls Try.prog 10 #[.pointer (some ⟨q, 0, none⟩), .agg #[.int .i64 (c 4), .int .i64 (c 0), .int .i64 (c 1), .int .i64 (c 2), .int .i64 (c 3)]] wr fun e w' => e = .returned (.int .i64 code) ∧ Has B w (BlockR q (q7 m n' f') :: rs) w') ∧
    (∀ (B : Nat) (w wr : World) (rs : List Res) (q : Nat), Has B w (BlockR q (r7 m n f) :: rs) wr → Calls Try.prog 11 #[.pointer (some ⟨q, 0, none⟩), .agg #[.int .i64 (c 4), .int .i64 (c 0), .int .i64 (c 1), .int .i64 (c 2), .int .i64 (c 3)]] wr fun e w' => e = .returned (.int .i64 code) ∧ Has B w (BlockR q (r7 m n' f') :: rs) w') := by
  by_cases hA : ∀ j : Nat, j < 5 → 0 ≤ c j
  · by_cases hB : n < m
    · by_cases hC : c 4 ≤ f 4
      · by_cases hD : ∀ j : Nat, j < 5 → c j ≤ f j
        · exact ⟨0, n + 1, less f c 5, Or.inr ⟨rfl, rfl, rfl, hB, fun j hj => ⟨hA j hj, hD j hj⟩⟩, fun B w wr rs q h => admit_E q m n f c h hf hn hA hB hC hD, fun B w wr rs q h => radmit_E q m n f c h hf hn hA hB hC hD⟩
        · exact ⟨152, n, f, Or.inl ⟨by decide, rfl, rfl⟩, fun B w wr rs q h => admit_D q m n f c h hf hn hA hB hC hD, fun B w wr rs q h => radmit_D q m n f c h hf hn hA hB hC hD⟩
      · exact ⟨151, n, f, Or.inl ⟨by decide, rfl, rfl⟩, fun B w wr rs q h => admit_C q m n f c h hf hn hA hB (by omega), fun B w wr rs q h => radmit_C q m n f c h hf hn hA hB (by omega)⟩
    · exact ⟨150, n, f, Or.inl ⟨by decide, rfl, rfl⟩, fun B w wr rs q h => admit_B q m n f c h hf hn hA (by omega), fun B w wr rs q h => radmit_B q m n f c h hf hn hA (by omega)⟩
  · exact ⟨1, n, f, Or.inl ⟨by decide, rfl, rfl⟩, fun B w wr rs q h => admit_A q m n f c h hf hn hA, fun B w wr rs q h => radmit_A q m n f c h hf hn hA⟩
theorem AdmOk.bounds {m n : Int} {f c : Five} {code n' : Int} {f' : Five} (h : AdmOk m n f c code n' f') (hf : ∀ j : Nat, j < 5 → 0 ≤ f j ∧ f j ≤ 100000) (hn : 0 ≤ n ∧ n ≤ m) : (∀ j : Nat, j < 5 → 0 ≤ f' j ∧ f' j ≤ 100000) ∧ 0 ≤ n' ∧ n' ≤ m := by
  rcases h with ⟨_, rfl, rfl⟩ | ⟨_, rfl, rfl, hl, hc⟩
  · exact ⟨hf, hn⟩
  · refine ⟨fun j hj => ?_, by omega, by omega⟩
    have h1 := hf j hj
    have h2 := hc j hj
    unfold less
    rw [if_pos hj]
    omega

def fiveOf (a b c d e : Int) : Five := fun j => match j with | 0 => a | 1 => b | 2 => c | 3 => d | _ => e
theorem liveLess (m n : Int) : q7 m n (less (fiveOf 5 5 0 0 10) (fiveOf 2 0 0 0 4) 5) = q7 m n (fiveOf 3 5 0 0 6) := q7_congr (fun j hj => by rcases lt5 hj with rfl | rfl | rfl | rfl | rfl <;> rfl)
theorem eqSame (a0 a1 a2 a3 a4 : Int) (w : World) : (binOp .eql 32 (.agg #[.int .i64 a0, .int .i64 a1, .int .i64 a2, .int .i64 a3, .int .i64 a4]) (.agg #[.int .i64 a0, .int .i64 a1, .int .i64 a2, .int .i64 a3, .int .i64 a4])).run Try.prog w = .ok (.bool true) w := by
  rw [run_eql_struct, eqCost]
  simp
set_option maxHeartbeats 4000000 in
theorem live_any {B : Nat} {w wr : World} {rs : List Res} (h : Has B w rs wr) : Calls Try.prog 8 #[] wr fun e w' => e = .returned (.bool true) ∧ Has B w rs w' := by
  have C1 : Hid (Calls Try.prog 6 #[.int .i64 1, .int .i64 10, .agg #[.int .i64 5, .int .i64 5, .int .i64 0, .int .i64 0]] wr fun e w' => ∃ q, e = .returned (.tuple #[.pointer (some ⟨q, 0, none⟩), .int .i64 0]) ∧ Has B w (BlockR q (q7 1 0 (fiveOf 5 5 0 0 10)) :: rs) w') :=
    new_yes h 1 (fiveOf 5 5 0 0 10) ⟨by decide, by decide, fun j hj => by unfold BudgetOk; rcases lt5 hj with rfl | rfl | rfl | rfl | rfl <;> decide⟩
  have C2 : Hid (∀ q w2, Has B w (BlockR q (q7 1 0 (fiveOf 5 5 0 0 10)) :: rs) w2 → Calls Try.prog 10 #[.pointer (some ⟨q, 0, none⟩), .agg #[.int .i64 4, .int .i64 2, .int .i64 0, .int .i64 0, .int .i64 0]] w2 fun e w' => e = .returned (.int .i64 0) ∧ Has B w (BlockR q (q7 1 1 (fiveOf 3 5 0 0 6)) :: rs) w') := fun q w2 h2 => by
    have k := admit_E q 1 0 (fiveOf 5 5 0 0 10) (fiveOf 2 0 0 0 4) h2 (fun j hj => by rcases lt5 hj with rfl | rfl | rfl | rfl | rfl <;> decide) (by decide) (fun j hj => by rcases lt5 hj with rfl | rfl | rfl | rfl | rfl <;> decide) (by decide) (by decide) (fun j hj => by rcases lt5 hj with rfl | rfl | rfl | rfl | rfl <;> decide)
    rw [liveLess] at k
    exact k
  have C3 : Hid (∀ q w2, Has B w (BlockR q (q7 1 1 (fiveOf 3 5 0 0 6)) :: rs) w2 → Calls Try.prog 9 #[.pointer (some ⟨q, 0, none⟩)] w2 fun e w' => e = .returned (.tuple #[.int .i64 1, .agg #[.int .i64 6, .int .i64 3, .int .i64 5, .int .i64 0, .int .i64 0]]) ∧ Has B w (BlockR q (q7 1 1 (fiveOf 3 5 0 0 6)) :: rs) w') := fun q w2 h2 => left_any q 1 1 (fiveOf 3 5 0 0 6) h2 List.mem_cons_self
  have C4 : Hid (∀ q w2, Has B w (BlockR q (q7 1 1 (fiveOf 3 5 0 0 6)) :: rs) w2 → Calls Try.prog 10 #[.pointer (some ⟨q, 0, none⟩), .agg #[.int .i64 0, .int .i64 0, .int .i64 0, .int .i64 0, .int .i64 0]] w2 fun e w' => e = .returned (.int .i64 150) ∧ Has B w (BlockR q (q7 1 1 (fiveOf 3 5 0 0 6)) :: rs) w') := fun q w2 h2 =>
    admit_B q 1 1 (fiveOf 3 5 0 0 6) (fiveOf 0 0 0 0 0) h2 (fun j hj => by rcases lt5 hj with rfl | rfl | rfl | rfl | rfl <;> decide) (by decide) (fun j hj => by rcases lt5 hj with rfl | rfl | rfl | rfl | rfl <;> decide) (by decide)
  have KE := fun wq => eqSame 6 3 5 0 0 wq
  clear h
  go_enter Try.func8, Try.ntmps8
  go_wp2_with fail
  refine C1.out.mono ?_
  rintro e w1 ⟨q, rfl, h1⟩
  have C5 := C2.out q w1 h1
  clear C1 C2 h1
  go_wp2_with fail
  refine C5.mono ?_
  rintro e w2 ⟨rfl, h2⟩
  have C6 := C3.out q w2 h2
  clear C5 C3 h2
  go_wp2_with fail
  refine C6.mono ?_
  rintro e w3 ⟨rfl, h3⟩
  have H4 : Hid (Has B w (BlockR q (q7 1 1 (fiveOf 3 5 0 0 6)) :: BlockR w3.heap.size [.int .i64 6, .int .i64 3, .int .i64 5, .int .i64 0, .int .i64 0] :: rs) (w3.alloc (.cells #[.int .i64 6, .int .i64 3, .int .i64 5, .int .i64 0, .int .i64 0] 32))) := (h3.box [.int .i64 6, .int .i64 3, .int .i64 5, .int .i64 0, .int .i64 0] 32).perm (List.Perm.swap _ _ _)
  have C7 : Hid (Calls Try.prog 10 #[.pointer (some ⟨q, 0, none⟩), .agg #[.int .i64 0, .int .i64 0, .int .i64 0, .int .i64 0, .int .i64 0]] (w3.alloc (.cells #[.int .i64 6, .int .i64 3, .int .i64 5, .int .i64 0, .int .i64 0] 32)) fun e w' => e = .returned (.int .i64 150) ∧ Has B w (BlockR q (q7 1 1 (fiveOf 3 5 0 0 6)) :: BlockR w3.heap.size [.int .i64 6, .int .i64 3, .int .i64 5, .int .i64 0, .int .i64 0] :: rs) w') :=
    admit_B q 1 1 (fiveOf 3 5 0 0 6) (fiveOf 0 0 0 0 0) H4.out (fun j hj => by rcases lt5 hj with rfl | rfl | rfl | rfl | rfl <;> decide) (by decide) (fun j hj => by rcases lt5 hj with rfl | rfl | rfl | rfl | rfl <;> decide) (by decide)
  clear C6 C4 h3 H4
  go_wp2_with fail
  refine C7.out.mono ?_
  rintro e w4 ⟨rfl, h4⟩
  have H5 : Hid (Has B w rs w4) := h4.drop.drop
  clear C7 h4
  go_wp2_with fail
  go_ret
  exact ⟨rfl, H5.out⟩

set_option maxHeartbeats 4000000 in
theorem makes_walk (w : World) (m : Int) (f : Five) : Calls Try.prog 3 #[.int .i64 m, .int .i64 (f 4), .agg #[.int .i64 (f 0), .int .i64 (f 1), .int .i64 (f 2), .int .i64 (f 3)]] w fun e w' => e = .returned (.bool true) ∧ Below w.heap.size w w' := by
  have HS0 : Hid (Has w.heap.size w [BlockR w.heap.size [.int .i64 (f 0), .int .i64 (f 1), .int .i64 (f 2), .int .i64 (f 3)]] (w.alloc (.cells #[.int .i64 (f 0), .int .i64 (f 1), .int .i64 (f 2), .int .i64 (f 3)] 22))) := (Has.start w).box [.int .i64 (f 0), .int .i64 (f 1), .int .i64 (f 2), .int .i64 (f 3)] 22
  by_cases hok : NewOk m f
  · have C1 : Hid (∀ wq, Has w.heap.size w [BlockR w.heap.size [.int .i64 (f 0), .int .i64 (f 1), .int .i64 (f 2), .int .i64 (f 3)]] wq → Calls Try.prog 6 #[.int .i64 m, .int .i64 (f 4), .agg #[.int .i64 (f 0), .int .i64 (f 1), .int .i64 (f 2), .int .i64 (f 3)]] wq fun e w' => ∃ q, e = .returned (.tuple #[.pointer (some ⟨q, 0, none⟩), .int .i64 0]) ∧ Hid (Has w.heap.size w [BlockR q (q7 m 0 f), BlockR w.heap.size [.int .i64 (f 0), .int .i64 (f 1), .int .i64 (f 2), .int .i64 (f 3)]] w')) := fun wq h => new_yes h m f hok
    have C2 : Hid (∀ wq q, Has w.heap.size w [BlockR q (q7 m 0 f), BlockR w.heap.size [.int .i64 (f 0), .int .i64 (f 1), .int .i64 (f 2), .int .i64 (f 3)]] wq → Calls Try.prog 7 #[.int .i64 m, .int .i64 (f 4), .agg #[.int .i64 (f 0), .int .i64 (f 1), .int .i64 (f 2), .int .i64 (f 3)]] wq fun e w' => ∃ k, e = .returned (.tuple #[.pointer (some ⟨k, 0, none⟩), .int .i64 0]) ∧ Hid (Has w.heap.size w [BlockR q (q7 m 0 f), BlockR w.heap.size [.int .i64 (f 0), .int .i64 (f 1), .int .i64 (f 2), .int .i64 (f 3)]] w')) := fun wq q h => (rnew_yes h m f hok).mono (fun e w' ⟨k, he, hh⟩ => ⟨k, he, hh.drop⟩)
    have C3 : Hid (∀ wq q, Has w.heap.size w [BlockR q (q7 m 0 f), BlockR w.heap.size [.int .i64 (f 0), .int .i64 (f 1), .int .i64 (f 2), .int .i64 (f 3)]] wq → Calls Try.prog 9 #[.pointer (some ⟨q, 0, none⟩)] wq fun e w' => e = .returned (.tuple #[.int .i64 0, .agg #[.int .i64 (f 4), .int .i64 (f 0), .int .i64 (f 1), .int .i64 (f 2), .int .i64 (f 3)]]) ∧ Hid (Has w.heap.size w [BlockR q (q7 m 0 f), BlockR w.heap.size [.int .i64 (f 0), .int .i64 (f 1), .int .i64 (f 2), .int .i64 (f 3)]] w')) := fun wq q h => left_any q m 0 f h List.mem_cons_self
    have C4 : Hid (∀ wq rs, Has w.heap.size w rs wq → Calls Try.prog 8 #[] wq fun e w' => e = .returned (.bool true) ∧ Below w.heap.size w w') := fun wq rs h => (live_any h).mono (fun e w' ⟨he, hh⟩ => ⟨he, hh.bel⟩)
    have HC : Hid (∀ wq q, Has w.heap.size w [BlockR q (q7 m 0 f), BlockR w.heap.size [.int .i64 (f 0), .int .i64 (f 1), .int .i64 (f 2), .int .i64 (f 3)]] wq → wq.cell? ⟨w.heap.size, 0, none⟩ = some (.int .i64 (f 0)) ∧ wq.cell? ⟨w.heap.size, 1, none⟩ = some (.int .i64 (f 1)) ∧ wq.cell? ⟨w.heap.size, 2, none⟩ = some (.int .i64 (f 2)) ∧ wq.cell? ⟨w.heap.size, 3, none⟩ = some (.int .i64 (f 3))) := fun wq q h => by
      have k := h.cells (q := w.heap.size) (vs := [.int .i64 (f 0), .int .i64 (f 1), .int .i64 (f 2), .int .i64 (f 3)]) (by simp)
      exact ⟨k 0 _ rfl, k 1 _ rfl, k 2 _ rfl, k 3 _ rfl⟩
    have KE := fun wq => eqSame (f 4) (f 0) (f 1) (f 2) (f 3) wq
    clear hok
    generalize f 0 = f0 at *
    generalize f 1 = f1 at *
    generalize f 2 = f2 at *
    generalize f 3 = f3 at *
    generalize f 4 = f4 at *
    go_enter Try.func3, Try.ntmps3
    go_wp2_with fail
    refine (C1.out _ HS0.out).mono ?_
    rintro e w1 ⟨q, rfl, h1⟩
    obtain ⟨p0, p1, p2, p3⟩ := HC.out _ _ h1.out
    have D2 := C2.out _ _ h1.out
    clear C1 C2 HS0 h1
    go_wp2_with fail
    refine D2.mono ?_
    rintro e w2 ⟨k, rfl, h2⟩
    have D3 := C3.out _ _ h2.out
    clear D2 C3 h2 p0 p1 p2 p3
    go_wp2_with fail
    refine D3.mono ?_
    rintro e w3 ⟨rfl, h3⟩
    obtain ⟨p0, p1, p2, p3⟩ := HC.out _ _ h3.out
    have D4 := C4.out _ _ (h3.out.box [.int .i64 f4, .int .i64 f0, .int .i64 f1, .int .i64 f2, .int .i64 f3] 32)
    have hlt := block_lt_of_cell p0
    simp only at hlt
    have hn1 : ¬ w.heap.size = w3.heap.size := by omega
    have hn2 : ¬ w3.heap.size = w.heap.size := by omega
    clear D3 C4 HC h3
    go_wp2_with fail
    refine D4.mono ?_
    rintro e w4 ⟨rfl, h4⟩
    clear D4 KE p0 p1 p2 p3 hn1 hn2 hlt
    go_wp2_with fail
    go_ret
    exact ⟨rfl, h4⟩
  · have C1 : Hid (∀ wq, Has w.heap.size w [BlockR w.heap.size [.int .i64 (f 0), .int .i64 (f 1), .int .i64 (f 2), .int .i64 (f 3)]] wq → Calls Try.prog 6 #[.int .i64 m, .int .i64 (f 4), .agg #[.int .i64 (f 0), .int .i64 (f 1), .int .i64 (f 2), .int .i64 (f 3)]] wq fun e w' => e = .returned (.tuple #[.pointer none, .int .i64 1]) ∧ Hid (Has w.heap.size w [BlockR w.heap.size [.int .i64 (f 0), .int .i64 (f 1), .int .i64 (f 2), .int .i64 (f 3)]] w')) := fun wq h => new_no h m f hok
    have C2 : Hid (∀ wq, Has w.heap.size w [BlockR w.heap.size [.int .i64 (f 0), .int .i64 (f 1), .int .i64 (f 2), .int .i64 (f 3)]] wq → Calls Try.prog 7 #[.int .i64 m, .int .i64 (f 4), .agg #[.int .i64 (f 0), .int .i64 (f 1), .int .i64 (f 2), .int .i64 (f 3)]] wq fun e w' => e = .returned (.tuple #[.pointer none, .int .i64 1]) ∧ Hid (Has w.heap.size w [BlockR w.heap.size [.int .i64 (f 0), .int .i64 (f 1), .int .i64 (f 2), .int .i64 (f 3)]] w')) := fun wq h => rnew_no h m f hok
    have C4 : Hid (∀ wq rs, Has w.heap.size w rs wq → Calls Try.prog 8 #[] wq fun e w' => e = .returned (.bool true) ∧ Below w.heap.size w w') := fun wq rs h => (live_any h).mono (fun e w' ⟨he, hh⟩ => ⟨he, hh.bel⟩)
    have HC : Hid (∀ wq, Has w.heap.size w [BlockR w.heap.size [.int .i64 (f 0), .int .i64 (f 1), .int .i64 (f 2), .int .i64 (f 3)]] wq → wq.cell? ⟨w.heap.size, 0, none⟩ = some (.int .i64 (f 0)) ∧ wq.cell? ⟨w.heap.size, 1, none⟩ = some (.int .i64 (f 1)) ∧ wq.cell? ⟨w.heap.size, 2, none⟩ = some (.int .i64 (f 2)) ∧ wq.cell? ⟨w.heap.size, 3, none⟩ = some (.int .i64 (f 3))) := fun wq h => by
      have k := h.cells (q := w.heap.size) (vs := [.int .i64 (f 0), .int .i64 (f 1), .int .i64 (f 2), .int .i64 (f 3)]) (by simp)
      exact ⟨k 0 _ rfl, k 1 _ rfl, k 2 _ rfl, k 3 _ rfl⟩
    clear hok
    generalize f 0 = f0 at *
    generalize f 1 = f1 at *
    generalize f 2 = f2 at *
    generalize f 3 = f3 at *
    generalize f 4 = f4 at *
    go_enter Try.func3, Try.ntmps3
    go_wp2_with fail
    refine (C1.out _ HS0.out).mono ?_
    rintro e w1 ⟨rfl, h1⟩
    obtain ⟨p0, p1, p2, p3⟩ := HC.out _ h1.out
    have D2 := C2.out _ h1.out
    clear C1 C2 HS0 h1 HC
    go_wp2_with fail
    refine D2.mono ?_
    rintro e w2 ⟨rfl, h2⟩
    have D4 := C4.out _ _ h2.out
    clear D2 C4 h2 p0 p1 p2 p3
    go_wp2_with fail
    refine D4.mono ?_
    rintro e w4 ⟨rfl, h4⟩
    clear D4
    go_wp2_with fail
    go_ret
    exact ⟨rfl, h4⟩
end Go.Proofs.Ytgffcgigjiedpaa
