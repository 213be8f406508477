/- The walks of each with spend, of units and costs. -/
import Derived.Test.YtgffcgigjiedpaaAllW
set_option linter.unusedVariables false
set_option maxRecDepth 100000
namespace Go.Proofs.Ytgffcgigjiedpaa
open Go.RowKit

theorem four_cells (w : World) (g o : Nat) (a b c d : Int) (h0 : w.cell? ⟨g, o, none⟩ = some (.int .i64 a)) (h1 : w.cell? ⟨g, o + 1, none⟩ = some (.int .i64 b)) (h2 : w.cell? ⟨g, o + 2, none⟩ = some (.int .i64 c)) (h3 : w.cell? ⟨g, o + 3, none⟩ = some (.int .i64 d)) :
    ∀ j v, [Value.int .i64 a, .int .i64 b, .int .i64 c, .int .i64 d][j]? = some v → w.cell? ((⟨g, o, none⟩ : Addr).add j) = some v := by
  intro j v hj
  rw [Go.WideShapes.add_plain]
  match j, hj with
  | 0, hj => cases hj; exact h0
  | 1, hj => cases hj; exact h1
  | 2, hj => cases hj; exact h2
  | 3, hj => cases hj; exact h3
theorem four_ints (a b c d : Int) : ∀ v ∈ [Value.int .i64 a, .int .i64 b, .int .i64 c, .int .i64 d], v.oneCell' = true := by
  intro u hu
  simp only [List.mem_cons, List.not_mem_nil, or_false] at hu
  rcases hu with rfl | rfl | rfl | rfl <;> rfl
theorem some_cells (w : World) (g o : Nat) (n : Nat) (h : ∀ j, j < n → ∃ v, w.cell? ⟨g, o + j, none⟩ = some v) : ∀ j, j < n → (w.cell? ⟨g, o + j, none⟩).isSome = true := fun j hj => by
  obtain ⟨v, hv⟩ := h j hj
  rw [hv]; rfl

theorem infoI1 : (Try.prog.info? 3).map (·.size) = some 1 := by kernel_rfl
set_option maxHeartbeats 2000000 in
theorem unitsOf_any (w : World) (f : Five) :
    Calls Try.prog 15 #[.int .i64 (f 4), .agg #[.int .i64 (f 0), .int .i64 (f 1), .int .i64 (f 2), .int .i64 (f 3)]] w fun e w' => e = .returned (.agg #[.int .i64 (f 0), .int .i64 (f 1), .int .i64 (f 2), .int .i64 (f 3), .int .i64 (f 4)]) ∧ Below w.heap.size w w' := by
  go_enter Try.func15, Try.ntmps15
  go_wp2_with fail
  go_region_law (refine step_copy_cells _ rfl _ _ 58 rfl 3 Try.underlying58 infoI1 _ 0 5 5 rfl ⟨_, 0, none⟩ 4 4 rfl [.int .i64 (f 0), .int .i64 (f 1), .int .i64 (f 2), .int .i64 (f 3)] rfl (four_cells _ _ 0 _ _ _ _ (by go_simp) (by go_simp) (by go_simp) (by go_simp)) (fun j hj => by rcases lt4 hj with rfl | rfl | rfl | rfl <;> go_simp) (fun j hj => by rcases lt4 hj with rfl | rfl | rfl | rfl <;> go_simp) (four_ints _ _ _ _) ?_; simp only [World.setCells])
  go_wp2
  exact bodyPost_ret (results_five rfl _ _ (w.heap.size + 1) _ _ _ _ _ _ rfl (by go_simp) (by go_simp) (by go_simp) (by go_simp) (by go_simp) Try.underlying45 rfl (by kernel_rfl)) rfl ⟨rfl, ((((Below.refl _ _).alloc (Nat.le_refl _) _).alloc (by simp) _).alloc (by simp; omega) _).drew⟩

set_option maxHeartbeats 2000000 in
theorem cost_any (w : World) (q : Nat) (m n : Int) (f : Five) (h : ∀ j v, (q7 m n f)[j]? = some v → w.cell? ⟨q, j, none⟩ = some v) :
    Calls Try.prog 18 #[.pointer (some ⟨q, 2, none⟩)] w fun e w' => e = .returned (.agg #[.int .i64 (f 4), .int .i64 (f 0), .int .i64 (f 1), .int .i64 (f 2), .int .i64 (f 3)]) ∧ Below w.heap.size w w' := by
  have c0 := h 2 _ rfl
  have c1 := h 3 _ rfl
  have c2 := h 4 _ rfl
  have c3 := h 5 _ rfl
  have c4 := h 6 _ rfl
  have hq := block_lt_of_cell c0
  have hq1 : ¬ q = w.heap.size := by simp only at hq; omega
  have hq2 : ¬ q = w.heap.size + 1 := by simp only at hq; omega
  simp only at hq
  clear h
  go_enter Try.func18, Try.ntmps18
  go_wp2_with fail
  go_region_law (refine step_copy_cells _ rfl _ _ 58 rfl 3 Try.underlying58 infoI1 _ 1 4 4 rfl ⟨q, 2, none⟩ 5 5 rfl [.int .i64 (f 0), .int .i64 (f 1), .int .i64 (f 2), .int .i64 (f 3)] rfl (four_cells _ _ 2 _ _ _ _ (by go_simp) (by go_simp) (by go_simp) (by go_simp)) (fun j hj => by rcases lt4 hj with rfl | rfl | rfl | rfl <;> go_simp) (fun j hj => by rcases lt4 hj with rfl | rfl | rfl | rfl <;> go_simp) (four_ints _ _ _ _) ?_; simp only [World.setCells])
  go_wp2
  exact bodyPost_ret (results_five rfl _ _ w.heap.size _ _ _ _ _ _ rfl (by go_simp) (by go_simp) (by go_simp) (by go_simp) (by go_simp) Try.underlying32 rfl (by kernel_rfl)) rfl ⟨rfl, (((Below.refl _ _).alloc (Nat.le_refl _) _).alloc (by simp) _).drew⟩
set_option maxHeartbeats 2000000 in
theorem each_any {B : Nat} {w wr : World} {rs : List Res} (q : Nat) (m n : Int) (f c : Five) (h : Has B w (BlockR q (q7 m n f) :: rs) wr) (hc : ∀ j, j < 5 → 0 ≤ c j ∧ c j ≤ f j ∧ f j ≤ 100000) :
    Calls Try.prog 21 #[.agg #[.int .i64 (c 0), .int .i64 (c 1), .int .i64 (c 2), .int .i64 (c 3), .int .i64 (c 4)], .func (.func 22) #[.pointer (some ⟨q, 2, none⟩)] #[]] wr fun e w' => e = .returned (.tuple #[]) ∧ ∃ vs, Has B w (BlockR q (q7 m n (less f c 5)) :: vs :: rs) w' := by
  have HC : Hid (∀ j, j < 5 → 0 ≤ c j ∧ c j ≤ f j ∧ f j ≤ 100000) := hc
  have HS0 : Hid (Has B w (BlockR q (q7 m n f) :: BlockR wr.heap.size [.int .i64 (c 0), .int .i64 (c 1), .int .i64 (c 2), .int .i64 (c 3), .int .i64 (c 4)] :: rs) (wr.alloc (.cells #[.int .i64 (c 0), .int .i64 (c 1), .int .i64 (c 2), .int .i64 (c 3), .int .i64 (c 4)] 45))) :=
    (h.box [.int .i64 (c 0), .int .i64 (c 1), .int .i64 (c 2), .int .i64 (c 3), .int .i64 (c 4)] 45).perm (List.Perm.swap _ _ _)
  obtain ⟨sb, hsb⟩ : ∃ sb, wr.heap.size = sb := ⟨_, rfl⟩
  rw [hsb] at HS0
  clear h hc hsb
  go_enter Try.func21, Try.ntmps21
  go_wp2_with fail
  generalize (wr.alloc (.cells #[.int .i64 (c 0), .int .i64 (c 1), .int .i64 (c 2), .int .i64 (c 3), .int .i64 (c 4)] 45)) = w0 at *
  go_loopw [7] (fun i wq => ∃ k : Nat, k ≤ 5 ∧ i = .int .i64 (k : Int) ∧ Hid (Has B w (BlockR q (q7 m n (less f c k)) :: BlockR sb [.int .i64 (c 0), .int .i64 (c 1), .int .i64 (c 2), .int .i64 (c 3), .int .i64 (c 4)] :: rs) wq)) (fun i _ => 5 - (intOf i).toNat)
  case atStart => exact ⟨0, Nat.zero_le _, rfl, by rw [less_zero]; exact HS0⟩
  case round =>
    obtain ⟨k, hk, rfl, HS⟩ := hrel
    by_cases hlt : k < 5
    · have hltI : (k : Int) < 5 := by omega
      have KI := fun wq => index5 c k hlt wq
      obtain ⟨k1, k2, k3⟩ := HC.out k hlt
      have hf : less f c k k = f k := by simp [less]
      have C := spend_any q m n (less f c k) HS.out k hlt (c k) (by rw [hf]; omega) (by rw [hf]; omega)
      rw [hf, less_step f c k] at C
      clear HS0 HS hf k1 k2 k3
      generalize c k = ck at *
      go_wp2_with fail
      refine C.mono ?_
      rintro e w1 ⟨rfl, h1⟩
      have HN : Hid (Has B w (BlockR q (q7 m n (less f c (k + 1))) :: BlockR sb [.int .i64 (c 0), .int .i64 (c 1), .int .i64 (c 2), .int .i64 (c 3), .int .i64 (c 4)] :: rs) w1) := h1
      clear C h1
      go_wp2_with fail
      exact ⟨⟨k + 1, by omega, by go_num, HN⟩, by simp [intOf]; omega⟩
    · have hltI : ¬ (k : Int) < 5 := by omega
      obtain rfl : k = 5 := by omega
      clear HS0
      go_wp2_with fail
      refine bodyPost_end (results_none rfl _ _ _) rfl ?_
      exact ⟨rfl, _, HS.out⟩
end Go.Proofs.Ytgffcgigjiedpaa
