/- The walk of the document's Of. -/
import Derived.Test.YtaeakednekbekaaDoorRefNamedW
import Derived.RegionTactic
import Derived.ChangeAlike
set_option linter.unusedVariables false
set_option maxRecDepth 100000
namespace Go.Proofs.YtaeakednekbekaaDoor
open Go.RowKit CheckMath
open Go.Proofs.YtaeakednekbekaaDoor.Nm

/-- The cost as the first loop leaves it, then as the second does. -/
def c1F (L : List Nat) (i : Nat) : Nat → Nat := fun j => if j = 0 then 3 + L.length else if (L.take i).contains (j - 1) then 1 else 0
def c2F (ss : List StepD) (k : Nat) : Nat → Nat := fun j => if j = 0 then 3 + nn ss + ((ss.take k).map fun s => nOf s + 1).sum else 0 + (one (nmd ss (j - 1)) + atP (ss.take k) (j - 1))
theorem c1F_set (L : List Nat) (i q : Nat) (hi : i < L.length) (hq : L[i] = q) : fl (upd5 (c1F L i) (q + 1) 1) = fl (c1F L (i + 1)) := by
  refine fl_congr fun j hj => ?_
  unfold upd5 c1F
  rw [List.take_succ_eq_append_getElem hi, hq]
  by_cases e : j = q + 1
  · subst e; simp
  · by_cases e0 : j = 0
    · simp [e0]
    · have : ¬ j - 1 = q := by omega
      simp [e, e0, this]
theorem c12F (ss : List StepD) : fl (c1F (nmL ss 4) (nmL ss 4).length) = fl (c2F ss 0) := by
  refine fl_congr fun j hj => ?_
  unfold c1F c2F
  rw [List.take_length, nmL_four]
  by_cases e0 : j = 0
  · simp [e0]
  · have h4 : j - 1 < 4 := by omega
    simp only [e0, if_false, List.take_zero]
    have : (nmL ss 4).contains (j - 1) = nmd ss (j - 1) := by
      rw [Bool.eq_iff_iff, List.contains_iff_mem, nmL_mem]
      simp [h4]
    rw [this]
    cases nmd ss (j - 1) <;> rfl
theorem c2F_orch (ss : List StepD) (k : Nat) (hk : k < ss.length) : c2F ss (k + 1) 0 = c2F ss k 0 + nOf (nth ss k) + 1 := by
  unfold c2F
  rw [if_pos rfl, if_pos rfl, take_nth hk, List.map_append, List.sum_append]
  simp
  omega
theorem c2F_part (ss : List StepD) (k q j : Nat) (hk : k < ss.length) (hq : (nth ss k).part = (q : Int)) : c2F ss (k + 1) (j + 1) = c2F ss k (j + 1) + if j = q then nOf (nth ss k) else 0 := by
  unfold c2F
  rw [if_neg (by omega), if_neg (by omega), take_nth hk, atP_more, hq, Nat.add_sub_cancel]
  by_cases e : j = q
  · subst e; simp; omega
  · have : ¬ (q : Int) = (j : Int) := by omega
    simp [e, this]
theorem c2F_set (ss : List StepD) (k q : Nat) (hk : k < ss.length) (hq : (nth ss k).part = (q : Int)) (h4 : q < 4) : fl (upd5 (upd5 (c2F ss k) 0 (c2F ss k 0 + nOf (nth ss k) + 1)) (q + 1) (c2F ss k (q + 1) + nOf (nth ss k))) = fl (c2F ss (k + 1)) := by
  refine fl_congr fun j hj => ?_
  unfold upd5
  by_cases e0 : j = 0
  · subst e0; rw [if_neg (by omega), if_pos rfl, c2F_orch ss k hk]
  · obtain ⟨i, rfl⟩ : ∃ i, j = i + 1 := ⟨j - 1, by omega⟩
    rw [c2F_part ss k q i hk hq, if_neg e0]
    by_cases e : i = q
    · subst e; simp
    · simp [e]
theorem c2F_end (ss : List StepD) : fl (c2F ss ss.length) = fl (costF (rec5 ss)) := by
  refine fl_congr fun j hj => ?_
  unfold c2F costF rec5
  rw [List.take_length]
  by_cases e0 : j = 0
  · simp [e0, cO]
  · rw [if_neg e0, if_neg e0, if_neg (by omega)]
    show 0 + _ = _
    rw [Nat.zero_add]
    rfl
theorem c2F_le (ss : List StepD) (h8 : ss.length ≤ 8) (k j : Nat) : c2F ss k j ≤ 1000 := by
  unfold c2F
  have h1 := sum_le (ss.take k)
  have h2 := atP_le (ss.take k) (j - 1)
  have h3 : (ss.take k).length ≤ 8 := by rw [List.length_take]; omega
  have h4 := one_le (nmd ss (j - 1))
  have h5 : nn ss ≤ 4 := by rw [← nmL_four]; exact nmL_len ss 4
  split
  · omega
  · show 0 + _ ≤ _
    omega

set_option maxHeartbeats 2000000 in
theorem refOf_bad (v : Value) (D : DefD) (hz : SzD D) (w : World) (h : DefIn w v D) (hc : (checkM D).2 ≠ 0) :
    Calls Tryd.prog 8 #[v] w fun e w' => e = .returned (.tuple #[.agg #[.int .i64 0, .int .i64 0, .int .i64 0, .int .i64 0, .int .i64 0], .int .i64 1]) ∧ Below w.heap.size w w' := by
  have CX : Hid (∀ wq, Below w.heap.size w wq → Calls Tryd.prog 16 #[v] wq fun e w' => e = .returned (.tuple #[.int .i64 (checkM D).1, .int .i64 (checkM D).2]) ∧ Below wq.heap.size wq w') := fun wq hq => refCheck_any v D hz wq (h.below hq)
  obtain ⟨sv, rfl, hd⟩ := h
  obtain ⟨ao, cap, rfl, hcap, _, hlen, _⟩ := hd
  have hc2 : ((checkM D).2 == 0) = false := by simpa using hc
  have HS0 : Hid (Has w.heap.size w [BlockR (w.heap.size + 1) (fl fun _ => 0), BlockR w.heap.size [.string D.name, .slice ao D.steps.length cap]]
      ((w.alloc (.cells #[.string D.name, .slice ao D.steps.length cap] 24)).alloc (.cells #[.int .i64 0, .int .i64 0, .int .i64 0, .int .i64 0, .int .i64 0] 28))) := by
    have h1 := (Has.start w).box [.string D.name, .slice ao D.steps.length cap] 24
    have h2 := h1.box (fl fun _ => 0) 28
    have e : ∀ (w : World) (o : Obj), (w.alloc o).heap.size = w.heap.size + 1 := fun w o => by simp
    simp only [e] at h2
    exact h2
  generalize (checkM D).1 = m1 at *
  generalize (checkM D).2 = m2 at *
  clear hc hz
  go_enter Tryd.func8, Tryd.ntmps8
  go_wp2_with fail
  refine (CX.out _ HS0.out.bel).mono ?_
  rintro e w1 ⟨rfl, hb1⟩
  have HS1 : Hid (Has w.heap.size w [BlockR (w.heap.size + 1) (fl fun _ => 0), BlockR w.heap.size [.string D.name, .slice ao D.steps.length cap]] w1) := HS0.out.below hb1
  obtain ⟨j0, k0⟩ := HS1.out.five List.mem_cons_self 0 (by omega)
  obtain ⟨j1, k1⟩ := HS1.out.five List.mem_cons_self 1 (by omega)
  obtain ⟨j2, k2⟩ := HS1.out.five List.mem_cons_self 2 (by omega)
  obtain ⟨j3, k3⟩ := HS1.out.five List.mem_cons_self 3 (by omega)
  obtain ⟨j4, k4⟩ := HS1.out.five List.mem_cons_self 4 (by omega)
  have HB1 : Hid (Below w.heap.size w w1) := HS1.out.bel
  clear HS0 HS1 CX hb1
  go_wp2_with fail
  have hsz := HB1.out.size
  exact bodyPost_ret (results_five_tmp rfl _ _ (w.heap.size + 1) _ _ _ _ _ _ rfl (by go_simp) (by go_simp) (by go_simp) (by go_simp) (by go_simp) Tryd.underlying28 rfl (by kernel_rfl)) rfl ⟨rfl, (((((HB1.out.setCell (by simp) _).setCell (by simp) _).setCell (by simp) _).setCell (by simp) _).setCell (by simp) _)⟩
end Go.Proofs.YtaeakednekbekaaDoor
