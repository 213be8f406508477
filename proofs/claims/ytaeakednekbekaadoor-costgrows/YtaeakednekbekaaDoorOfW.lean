/- The walks of Of and Named. -/
import Derived.Test.YtaeakednekbekaaDoorReck2W
import Derived.Test.YtaeakednekbekaaDoorEqlW
import Derived.Deep.AppendLies
set_option linter.unusedVariables false
set_option maxRecDepth 100000
namespace Go.Proofs.YtaeakednekbekaaDoor
open Go.RowKit CheckMath
open Go.Proofs.YtaeakednekbekaaDoor.Nm

/-- What Of answers: the orchestrator's, then each participant's. -/
def costF (f : Nat → Nat) : Nat → Nat := fun j => if j = 0 then f 4 else f (j - 1)
def costAt (f : Nat → Nat) (n : Nat) : Nat → Nat := fun j => if j = 0 then f 4 else if j ≤ n then f (j - 1) else 0

set_option maxHeartbeats 2000000 in
theorem of_bad (v : Value) (D : DefD) (w : World) (h : DefIn w v D) (hT : Tabs w) (hc : (checkM D).2 ≠ 0) :
    Calls Tryd.prog 7 #[v] w fun e w' => e = .returned (.tuple #[.agg #[.int .i64 0, .int .i64 0, .int .i64 0, .int .i64 0, .int .i64 0], .int .i64 1]) ∧ Below w.heap.size w w' := by
  have CX : Hid (∀ wq, Below w.heap.size w wq → Calls Tryd.prog 17 #[v] wq fun e w' => e = .returned (.agg #[.int .i64 0, .int .i64 0, .int .i64 0, .int .i64 0, .int .i64 0]) ∧ Below wq.heap.size wq w') := fun wq hq => reckon_bad v D wq (h.below hq) (Utf8Tabs_below hT hq) hc
  obtain ⟨sv, rfl, hd⟩ := h
  obtain ⟨ao, cap, rfl, hcap, _, hlen, _⟩ := hd
  have HS0 : Hid (Has w.heap.size w [BlockR (w.heap.size + 1) (fl fun _ => 0), BlockR w.heap.size [.string D.name, .slice ao D.steps.length cap]]
      ((w.alloc (.cells #[.string D.name, .slice ao D.steps.length cap] 24)).alloc (.cells #[.int .i64 0, .int .i64 0, .int .i64 0, .int .i64 0, .int .i64 0] 28))) := by
    have h1 := (Has.start w).box [.string D.name, .slice ao D.steps.length cap] 24
    have h2 := h1.box (fl fun _ => 0) 28
    have e : ∀ (w : World) (o : Obj), (w.alloc o).heap.size = w.heap.size + 1 := fun w o => by simp
    simp only [e] at h2
    exact h2
  clear hT
  go_enter Tryd.func7, Tryd.ntmps7
  go_wp2_with fail
  refine (CX.out _ HS0.out.bel).mono ?_
  rintro e w1 ⟨rfl, hb1⟩
  have HS1 : Hid (Has w.heap.size w [BlockR (w.heap.size + 1) (fl fun _ => 0), BlockR w.heap.size [.string D.name, .slice ao D.steps.length cap]] w1) := HS0.out.below hb1
  obtain ⟨j0, k0⟩ := HS1.out.five List.mem_cons_self 0 (by omega)
  obtain ⟨j1, k1⟩ := HS1.out.five List.mem_cons_self 1 (by omega)
  obtain ⟨j2, k2⟩ := HS1.out.five List.mem_cons_self 2 (by omega)
  obtain ⟨j3, k3⟩ := HS1.out.five List.mem_cons_self 3 (by omega)
  obtain ⟨j4, k4⟩ := HS1.out.five List.mem_cons_self 4 (by omega)
  have hlt : w.heap.size + 1 < w1.heap.size := block_lt_of_cell j0
  have HB1 : Hid (Below w.heap.size w w1) := HS1.out.bel
  have KE := recs_zero
  clear HS0 HS1 CX hb1
  have hn1 : ¬ w1.heap.size = w.heap.size + 1 := by omega
  have hn2 : ¬ w.heap.size + 1 = w1.heap.size := by omega
  go_wp2_with fail
  have hsz := HB1.out.size
  exact bodyPost_ret (results_five_tmp rfl _ _ (w.heap.size + 1) _ _ _ _ _ _ rfl (by go_simp) (by go_simp) (by go_simp) (by go_simp) (by go_simp) Tryd.underlying28 rfl (by kernel_rfl)) rfl ⟨rfl, ((((((HB1.out.setCell (by simp) _).setCell (by simp) _).setCell (by simp) _).setCell (by simp) _).setCell (by simp) _).alloc (by simpa using hsz) _)⟩

theorem costAt_end (f : Nat → Nat) : fl (costAt f 4) = fl (costF f) := rfl
theorem costAt_set (f : Nat → Nat) (n : Nat) (hn : n < 4) : fl (upd5 (costAt f n) (n + 1) (f n)) = fl (costAt f (n + 1)) := by
  refine fl_congr fun j hj => ?_
  unfold upd5 costAt
  by_cases e : j = n + 1
  · subst e; simp
  · by_cases e0 : j = 0
    · simp [e0]
    · by_cases e1 : j ≤ n
      · simp [e, e0, e1, show j ≤ n + 1 by omega]
      · simp [e, e0, e1, show ¬ j ≤ n + 1 by omega]

set_option maxHeartbeats 4000000 in
theorem of_good (v : Value) (D : DefD) (w : World) (h : DefIn w v D) (hT : Tabs w) (hc : (checkM D).2 = 0) :
    Calls Tryd.prog 7 #[v] w fun e w' => e = .returned (.tuple #[.agg #[.int .i64 (rec5 D.steps 4 : Nat), .int .i64 (rec5 D.steps 0 : Nat), .int .i64 (rec5 D.steps 1 : Nat), .int .i64 (rec5 D.steps 2 : Nat), .int .i64 (rec5 D.steps 3 : Nat)], .int .i64 0]) ∧ Below w.heap.size w w' := by
  have CX : Hid (∀ wq, Below w.heap.size w wq → Calls Tryd.prog 17 #[v] wq fun e w' => e = .returned (.agg #[.int .i64 (rec5 D.steps 0 : Nat), .int .i64 (rec5 D.steps 1 : Nat), .int .i64 (rec5 D.steps 2 : Nat), .int .i64 (rec5 D.steps 3 : Nat), .int .i64 (rec5 D.steps 4 : Nat)]) ∧ Below wq.heap.size wq w') := fun wq hq => reckon_good v D wq (h.below hq) (Utf8Tabs_below hT hq) hc
  have KE := recs_some (rec5 D.steps) (by have := cO_pos D.steps; unfold rec5; rw [if_pos rfl]; omega)
  obtain ⟨sv, rfl, hd⟩ := h
  obtain ⟨ao, cap, rfl, hcap, _, hlen, _⟩ := hd
  have HS0 : Hid (Has w.heap.size w [BlockR (w.heap.size + 1) (fl fun _ => 0), BlockR w.heap.size [.string D.name, .slice ao D.steps.length cap]]
      ((w.alloc (.cells #[.string D.name, .slice ao D.steps.length cap] 24)).alloc (.cells #[.int .i64 0, .int .i64 0, .int .i64 0, .int .i64 0, .int .i64 0] 28))) := by
    have h1 := (Has.start w).box [.string D.name, .slice ao D.steps.length cap] 24
    have h2 := h1.box (fl fun _ => 0) 28
    have e : ∀ (w : World) (o : Obj), (w.alloc o).heap.size = w.heap.size + 1 := fun w o => by simp
    simp only [e] at h2
    exact h2
  generalize rec5 D.steps = f at *
  clear hT hc
  go_enter Tryd.func7, Tryd.ntmps7
  go_wp2_with fail
  refine (CX.out _ HS0.out.bel).mono ?_
  rintro e w1 ⟨rfl, hb1⟩
  have HS1 : Hid (Has w.heap.size w [BlockR (w.heap.size + 1) (fl fun _ => 0), BlockR w.heap.size [.string D.name, .slice ao D.steps.length cap]] w1) := HS0.out.below hb1
  clear HS0 CX hb1
  have HS2 : Hid (Has w.heap.size w [BlockR (w1.heap.size + 1) (fl (costAt f 0)), BlockR w1.heap.size (fl f), BlockR (w.heap.size + 1) (fl fun _ => 0), BlockR w.heap.size [.string D.name, .slice ao D.steps.length cap]]
      ((w1.alloc (.cells #[.int .i64 (f 0 : Nat), .int .i64 (f 1 : Nat), .int .i64 (f 2 : Nat), .int .i64 (f 3 : Nat), .int .i64 (f 4 : Nat)] 47)).alloc (.cells #[.int .i64 (f 4 : Nat), .int .i64 0, .int .i64 0, .int .i64 0, .int .i64 0] 28))) := by
    have h1 := HS1.out.box (fl f) 47
    have h2 := h1.box (fl (costAt f 0)) 28
    have e : ∀ (w : World) (o : Obj), (w.alloc o).heap.size = w.heap.size + 1 := fun w o => by simp
    simp only [e] at h2
    exact h2
  clear HS1
  go_wp2_with fail
  generalize ((w1.alloc (.cells #[.int .i64 (f 0 : Nat), .int .i64 (f 1 : Nat), .int .i64 (f 2 : Nat), .int .i64 (f 3 : Nat), .int .i64 (f 4 : Nat)] 47)).alloc (.cells #[.int .i64 (f 4 : Nat), .int .i64 0, .int .i64 0, .int .i64 0, .int .i64 0] 28)) = w2 at *
  generalize w1.heap.size = sb at *
  go_loopw [16] (fun i wr => ∃ n : Nat, n ≤ 4 ∧ i = .int .i64 (n : Int) ∧ Hid (Has w.heap.size w [BlockR (sb + 1) (fl (costAt f n)), BlockR sb (fl f), BlockR (w.heap.size + 1) (fl fun _ => 0), BlockR w.heap.size [.string D.name, .slice ao D.steps.length cap]] wr)) (fun i _ => 4 - (intOf i).toNat)
  case atStart => exact ⟨0, Nat.zero_le _, rfl, HS2⟩
  case round =>
    obtain ⟨n, hn, rfl, H⟩ := hrel
    clear HS2 KE
    by_cases hlt : n < 4
    · have hltI : (n : Int) < 4 := by omega
      have hltJ : (n : Int) < 5 := by omega
      obtain ⟨q1, _⟩ := H.out.five (q := sb) (f := f) (by simp) n (by omega)
      obtain ⟨c1, c2⟩ := H.out.five List.mem_cons_self (n + 1) (by omega)
      have c1' : wr.cell? ⟨sb + 1, 1 + n, none⟩ = some (.int .i64 (costAt f n (n + 1) : Nat)) := by rw [Nat.add_comm 1 n]; exact c1
      have c2' : wr.frozen? ⟨sb + 1, 1 + n, none⟩ = false := by rw [Nat.add_comm 1 n]; exact c2
      have H2 : Hid (Has w.heap.size w [BlockR (sb + 1) (fl (costAt f (n + 1))), BlockR sb (fl f), BlockR (w.heap.size + 1) (fl fun _ => 0), BlockR w.heap.size [.string D.name, .slice ao D.steps.length cap]] (wr.setCell ⟨sb + 1, 1 + n, none⟩ (.int .i64 (f n : Nat)))) := by
        have h2 := H.out.put5 (n + 1) (by omega) (f n)
        rw [costAt_set f n hlt] at h2
        rw [show 1 + n = n + 1 by omega]
        exact h2
      clear c1 c2 H
      go_wp2
      exact ⟨⟨n + 1, by omega, by go_num, H2⟩, by simp [intOf]; omega⟩
    · have hltI : ¬ (n : Int) < 4 := by omega
      have H0 := H.out
      rw [show n = 4 by omega, costAt_end] at H0
      obtain ⟨i0, _⟩ := H0.five List.mem_cons_self 0 (by omega)
      obtain ⟨i1, _⟩ := H0.five List.mem_cons_self 1 (by omega)
      obtain ⟨i2, _⟩ := H0.five List.mem_cons_self 2 (by omega)
      obtain ⟨i3, _⟩ := H0.five List.mem_cons_self 3 (by omega)
      obtain ⟨i4, _⟩ := H0.five List.mem_cons_self 4 (by omega)
      have H1 := H0.perm (show List.Perm [BlockR (sb + 1) (fl (costF f)), BlockR sb (fl f), BlockR (w.heap.size + 1) (fl fun _ => 0), BlockR w.heap.size [.string D.name, .slice ao D.steps.length cap]] [BlockR (w.heap.size + 1) (fl fun _ => 0), BlockR (sb + 1) (fl (costF f)), BlockR sb (fl f), BlockR w.heap.size [.string D.name, .slice ao D.steps.length cap]] from List.perm_middle (l₁ := [_, _]))
      obtain ⟨j0, k0⟩ := H1.five List.mem_cons_self 0 (by omega)
      obtain ⟨j1, k1⟩ := H1.five List.mem_cons_self 1 (by omega)
      obtain ⟨j2, k2⟩ := H1.five List.mem_cons_self 2 (by omega)
      obtain ⟨j3, k3⟩ := H1.five List.mem_cons_self 3 (by omega)
      obtain ⟨j4, k4⟩ := H1.five List.mem_cons_self 4 (by omega)
      have H2 := H1.fill5 (costF f)
      have HFC : Hid (∀ j, j < 5 → (((((wr.setCell ⟨w.heap.size + 1, 0, none⟩ (.int .i64 (f 4 : Nat))).setCell ⟨w.heap.size + 1, 1, none⟩ (.int .i64 (f 0 : Nat))).setCell ⟨w.heap.size + 1, 2, none⟩ (.int .i64 (f 1 : Nat))).setCell ⟨w.heap.size + 1, 3, none⟩ (.int .i64 (f 2 : Nat))).setCell ⟨w.heap.size + 1, 4, none⟩ (.int .i64 (f 3 : Nat))).cell? ⟨w.heap.size + 1, j, none⟩ = some (.int .i64 (costF f j : Nat))) := fun (j : Nat) (hj : j < 5) => (H2.five List.mem_cons_self j hj).1
      have HFB : Hid (Below w.heap.size w (((((wr.setCell ⟨w.heap.size + 1, 0, none⟩ (.int .i64 (f 4 : Nat))).setCell ⟨w.heap.size + 1, 1, none⟩ (.int .i64 (f 0 : Nat))).setCell ⟨w.heap.size + 1, 2, none⟩ (.int .i64 (f 1 : Nat))).setCell ⟨w.heap.size + 1, 3, none⟩ (.int .i64 (f 2 : Nat))).setCell ⟨w.heap.size + 1, 4, none⟩ (.int .i64 (f 3 : Nat)))) := H2.bel
      rw [show costF f 0 = f 4 from rfl] at i0
      rw [show costF f 1 = f 0 from rfl] at i1
      rw [show costF f 2 = f 1 from rfl] at i2
      rw [show costF f 3 = f 2 from rfl] at i3
      rw [show costF f 4 = f 3 from rfl] at i4
      clear H0 H1 H2 H
      go_wp2
      have e0 := HFC.out 0 (by omega)
      have e1 := HFC.out 1 (by omega)
      have e2 := HFC.out 2 (by omega)
      have e3 := HFC.out 3 (by omega)
      have e4 := HFC.out 4 (by omega)
      exact bodyPost_ret (results_five_tmp rfl _ _ (w.heap.size + 1) _ _ _ _ _ _ rfl e0 e1 e2 e3 e4 Tryd.underlying28 rfl (by kernel_rfl)) rfl ⟨rfl, HFB.out⟩
end Go.Proofs.YtaeakednekbekaaDoor
