/- The walk of reckon of a definition that may be. -/
import Derived.Test.YtaeakednekbekaaDoorReckW
set_option linter.unusedVariables false
set_option maxRecDepth 100000
namespace Go.Proofs.YtaeakednekbekaaDoor
open Go.RowKit CheckMath
open Go.Proofs.YtaeakednekbekaaDoor.Nm

theorem take_nth {ss : List StepD} {k : Nat} (h : k < ss.length) : ss.take (k + 1) = ss.take k ++ [nth ss k] := by
  rw [List.take_succ_eq_append_getElem h, nth_eq h]
def StepsOk (ss : List StepD) : Prop := ss.length ≤ 8 ∧ ∀ i, i < ss.length → 0 ≤ (nth ss i).part ∧ (nth ss i).part < 4
theorem steps_fine {D : DefD} (h : (checkM D).2 = 0) : StepsOk D.steps := by
  have hf := (checkM_ok D).1 h
  exact ⟨hf.few, fun i hi => (fault_none (hf.step i hi)).2.2.2.1⟩

set_option maxHeartbeats 8000000 in
theorem reckon_good (v : Value) (D : DefD) (w : World) (h : DefIn w v D) (hT : Tabs w) (hc : (checkM D).2 = 0) :
    Calls Tryd.prog 17 #[v] w fun e w' => e = .returned (.agg #[.int .i64 (rec5 D.steps 0 : Nat), .int .i64 (rec5 D.steps 1 : Nat), .int .i64 (rec5 D.steps 2 : Nat), .int .i64 (rec5 D.steps 3 : Nat), .int .i64 (rec5 D.steps 4 : Nat)]) ∧ Below w.heap.size w w' := by
  have HT : Hid (Tabs w) := hT
  have CX : Hid (∀ wq, Below w.heap.size w wq → Calls Tryd.prog 23 #[v] wq fun e w' => e = .returned (.tuple #[.int .i64 (checkM D).1, .int .i64 0]) ∧ Below wq.heap.size wq w') := fun wq hq => by
    have := check_any v D wq (h.below hq) (Utf8Tabs_below HT.out hq)
    rw [hc] at this
    exact this
  have HOK : Hid (StepsOk D.steps) := steps_fine hc
  obtain ⟨sv, rfl, hd⟩ := h
  obtain ⟨ao, cap, rfl, hcap, hn0, hlen, hrow⟩ := hd
  have HROW : Hid (∀ j, j < D.steps.length → ∃ g o, ao = some ⟨g, o, none⟩ ∧ g < w.heap.size ∧ StepIn w g (o + j * 5) (nth D.steps j)) := hrow
  clear hrow hT hc hn0 HT
  have HS0 : Hid (Has w.heap.size w [BlockR (w.heap.size + 1) (fl fun _ => 0), BlockR w.heap.size [.string D.name, .slice ao D.steps.length cap]]
      ((w.alloc (.cells #[.string D.name, .slice ao D.steps.length cap] 24)).alloc (.cells #[.int .i64 0, .int .i64 0, .int .i64 0, .int .i64 0, .int .i64 0] 47))) := by
    have h1 := (Has.start w).box [.string D.name, .slice ao D.steps.length cap] 24
    have h2 := h1.box (fl fun _ => 0) 47
    have e : ∀ (w : World) (o : Obj), (w.alloc o).heap.size = w.heap.size + 1 := fun w o => by simp
    simp only [e] at h2
    exact h2
  generalize (checkM D).1 = m1 at *
  go_enter Tryd.func17, Tryd.ntmps17
  go_wp2_with fail
  generalize ((w.alloc (.cells #[.string D.name, .slice ao D.steps.length cap] 24)).alloc (.cells #[.int .i64 0, .int .i64 0, .int .i64 0, .int .i64 0, .int .i64 0] 47)) = w0 at *
  refine (CX.out _ HS0.out.bel).mono ?_
  rintro e w1 ⟨rfl, hb1⟩
  have HS1 : Hid (Has w.heap.size w [BlockR (w.heap.size + 1) (fl fun _ => 0), BlockR w.heap.size [.string D.name, .slice ao D.steps.length cap]] w1) := HS0.out.below hb1
  clear HS0 CX hb1
  go_wp2_with fail
  refine (ofEach_any _).mono ?_
  rintro e w2 ⟨rfl, hb2⟩
  have HS2 : Hid (Has w.heap.size w [BlockR w2.heap.size (fl (rec5 (D.steps.take 0))), BlockR (w.heap.size + 1) (fl fun _ => 0), BlockR w.heap.size [.string D.name, .slice ao D.steps.length cap]] (w2.alloc (.cells #[.int .i64 0, .int .i64 0, .int .i64 0, .int .i64 0, .int .i64 3] 47))) := by
    have := (HS1.out.below hb2).box (fl (rec5 (D.steps.take 0))) 47
    exact this
  obtain ⟨p1, _⟩ := (HS1.out.below hb2).cell (q := w.heap.size) (vs := [.string D.name, .slice ao D.steps.length cap]) (by simp) 1 _ rfl
  have hwl : w.heap.size < w2.heap.size := block_lt_of_cell p1
  have hwn : ¬ w.heap.size = w2.heap.size := by omega
  clear HS1 hb2
  go_wp2_with fail
  generalize (w2.alloc (.cells #[.int .i64 0, .int .i64 0, .int .i64 0, .int .i64 0, .int .i64 3] 47)) = w3 at *
  generalize w2.heap.size = sb at *
  clear p1
  go_loopw [20] (fun i wr => ∃ k : Nat, k ≤ D.steps.length ∧ i = .int .i64 (k : Int) ∧
      Hid (Has w.heap.size w [BlockR sb (fl (rec5 (D.steps.take k))), BlockR (w.heap.size + 1) (fl fun _ => 0), BlockR w.heap.size [.string D.name, .slice ao D.steps.length cap]] wr)) (fun i _ => D.steps.length - (intOf i).toNat)
  case atStart => exact ⟨0, Nat.zero_le _, rfl, HS2⟩
  case round =>
    obtain ⟨k, hk, rfl, H⟩ := hrel
    clear HS2
    by_cases hlt : k < D.steps.length
    · have hltI : (k : Int) < (D.steps.length : Int) := by omega
      obtain ⟨g, o, rfl, hg, hs⟩ := HROW.out k hlt
      obtain ⟨c0, c1, c2, kv, nv, c3, c4, c5, c6⟩ := hs
      obtain ⟨ka, kc, rfl⟩ := c5.slice
      obtain ⟨na, nc, rfl⟩ := c6.slice
      have hbw := H.out.bel
      have d0 := (hbw.cell (p := ⟨g, o + k * 5, none⟩) hg).trans c0
      have d1 := (hbw.cell (p := ⟨g, o + k * 5 + 1, none⟩) hg).trans c1
      have d2 := (hbw.cell (p := ⟨g, o + k * 5 + 2, none⟩) hg).trans c2
      have d3 := (hbw.cell (p := ⟨g, o + k * 5 + 3, none⟩) hg).trans c3
      have d4 := (hbw.cell (p := ⟨g, o + k * 5 + 4, none⟩) hg).trans c4
      obtain ⟨q, hq⟩ : ∃ q : Nat, (nth D.steps k).part = (q : Int) := ⟨(nth D.steps k).part.toNat, by have := (HOK.out.2 k hlt).1; omega⟩
      have hq4 : q < 4 := by have := (HOK.out.2 k hlt).2; omega
      have HQ : Hid ((nth D.steps k).part = (q : Int)) := hq
      rw [hq] at d2
      have hq5 : (q : Int) < 5 := by omega
      clear hq
      have hgr : g < wr.heap.size := Nat.lt_of_lt_of_le hg H.out.size
      obtain ⟨s5, _⟩ := H.out.five List.mem_cons_self q (by omega)
      have hsb : sb < wr.heap.size := block_lt_of_cell s5
      clear c0 c1 c2 c3 c4 c5 c6 hbw
      have HS5 : Hid (Has w.heap.size w [BlockR wr.heap.size [.string (nth D.steps k).name, .int .i64 (nth D.steps k).kind, .int .i64 (q : Int), .slice ka (nth D.steps k).keys.length kc, .slice na (nth D.steps k).needs.length nc], BlockR sb (fl (rec5 (D.steps.take k))), BlockR (w.heap.size + 1) (fl fun _ => 0), BlockR w.heap.size [.string D.name, .slice (some ⟨g, o, none⟩) D.steps.length cap]]
          (wr.alloc (.cells #[.string (nth D.steps k).name, .int .i64 (nth D.steps k).kind, .int .i64 (q : Int), .slice ka (nth D.steps k).keys.length kc, .slice na (nth D.steps k).needs.length nc] 44))) := H.out.box [.string (nth D.steps k).name, .int .i64 (nth D.steps k).kind, .int .i64 (q : Int), .slice ka (nth D.steps k).keys.length kc, .slice na (nth D.steps k).needs.length nc] 44
      have hne1 : ¬ sb = wr.heap.size := by omega
      have hne2 : ¬ wr.heap.size = sb := by omega
      have hne3 : ¬ g = wr.heap.size := by omega
      generalize hF : rec5 (D.steps.take k) = f at *
      have HF : Hid (rec5 (D.steps.take k) = f) := hF
      clear hF
      have HB1 : Hid (∀ j, f j ≤ 31) := fun j => by
        rw [← HF.out]
        have := rec5_le (D.steps.take k) j
        have h8 := HOK.out.1
        have : (D.steps.take k).length ≤ 8 := by rw [List.length_take]; omega
        omega
      have HG10 : Hid (∀ j, step1 (nth D.steps k) q j ≤ 1000000) := fun j => by have := nOf_le (nth D.steps k); unfold step1; split <;> (try split) <;> omega
      by_cases hnm : nmd (D.steps.take k) q = true
      · have hz : ((f q : Int) == 0) = false := by
          have : ¬ f q = 0 := fun e => by
            have h0 : cP (D.steps.take k) q = 0 := by
              have := HF.out
              have h2 : rec5 (D.steps.take k) q = f q := by rw [this]
              unfold rec5 at h2
              rw [if_neg (by omega)] at h2
              omega
            rw [cP_zero.1 h0] at hnm
            cases hnm
          simp
          omega
        have HF10 : Hid (∀ j, f j ≤ 1000000) := fun j => by have := HB1.out j; omega
        go_upto_region 10 with fail
        generalize (wr.alloc (.cells #[.string (nth D.steps k).name, .int .i64 (nth D.steps k).kind, .int .i64 (q : Int), .slice ka (nth D.steps k).keys.length kc, .slice na (nth D.steps k).needs.length nc] 44)) = w5 at *
        generalize wr.heap.size = tb at *
        clear d0 d1 d2 d3 d4 H s5
        have HX10 : Hid (∀ wq, Below w5.drew.heap.size w5.drew wq → ((wq.cell? ⟨sb, 0, none⟩ = some (.int .i64 (f 0 : Nat)) ∧ wq.cell? ⟨sb, 1, none⟩ = some (.int .i64 (f 1 : Nat)) ∧ wq.cell? ⟨sb, 2, none⟩ = some (.int .i64 (f 2 : Nat)) ∧ wq.cell? ⟨sb, 3, none⟩ = some (.int .i64 (f 3 : Nat)) ∧ wq.cell? ⟨sb, 4, none⟩ = some (.int .i64 (f 4 : Nat))) ∧ (wq.frozen? ⟨sb, 0, none⟩ = false ∧ wq.frozen? ⟨sb, 1, none⟩ = false ∧ wq.frozen? ⟨sb, 2, none⟩ = false ∧ wq.frozen? ⟨sb, 3, none⟩ = false ∧ wq.frozen? ⟨sb, 4, none⟩ = false)) ∧ (wq.cell? ⟨tb, 0, none⟩ = some (.string (nth D.steps k).name) ∧ wq.cell? ⟨tb, 1, none⟩ = some (.int .i64 (nth D.steps k).kind) ∧ wq.cell? ⟨tb, 2, none⟩ = some (.int .i64 (q : Int)) ∧ wq.cell? ⟨tb, 3, none⟩ = some (.slice ka (nth D.steps k).keys.length kc) ∧ wq.cell? ⟨tb, 4, none⟩ = some (.slice na (nth D.steps k).needs.length nc))) := fun wq hq => by
          have hh := HS5.out.below (w' := wq) ((show Below w5.heap.size w5 w5.drew from ⟨rfl, rfl, rfl, Nat.le_refl _, fun _ _ => rfl⟩).trans hq)
          obtain ⟨a0, b0⟩ := hh.five (q := sb) (f := f) (by simp) 0 (by omega)
          obtain ⟨a1, b1⟩ := hh.five (q := sb) (f := f) (by simp) 1 (by omega)
          obtain ⟨a2, b2⟩ := hh.five (q := sb) (f := f) (by simp) 2 (by omega)
          obtain ⟨a3, b3⟩ := hh.five (q := sb) (f := f) (by simp) 3 (by omega)
          obtain ⟨a4, b4⟩ := hh.five (q := sb) (f := f) (by simp) 4 (by omega)
          exact ⟨⟨⟨a0, a1, a2, a3, a4⟩, b0, b1, b2, b3, b4⟩, (hh.cell List.mem_cons_self 0 _ rfl).1, (hh.cell List.mem_cons_self 1 _ rfl).1, (hh.cell List.mem_cons_self 2 _ rfl).1, (hh.cell List.mem_cons_self 3 _ rfl).1, (hh.cell List.mem_cons_self 4 _ rfl).1⟩
        have HY10 : Hid (∀ wq, Below w5.drew.heap.size w5.drew wq → Has w.heap.size w [BlockR tb [.string (nth D.steps k).name, .int .i64 (nth D.steps k).kind, .int .i64 (q : Int), .slice ka (nth D.steps k).keys.length kc, .slice na (nth D.steps k).needs.length nc], BlockR sb (fl (fun j => f j + step1 (nth D.steps k) q j)), BlockR (w.heap.size + 1) (fl fun _ => 0), BlockR w.heap.size [.string D.name, .slice (some ⟨g, o, none⟩) D.steps.length cap]] (((((wq.setCell ⟨sb, 0, none⟩ (.int .i64 (f 0 + step1 (nth D.steps k) q 0 : Nat))).setCell ⟨sb, 1, none⟩ (.int .i64 (f 1 + step1 (nth D.steps k) q 1 : Nat))).setCell ⟨sb, 2, none⟩ (.int .i64 (f 2 + step1 (nth D.steps k) q 2 : Nat))).setCell ⟨sb, 3, none⟩ (.int .i64 (f 3 + step1 (nth D.steps k) q 3 : Nat))).setCell ⟨sb, 4, none⟩ (.int .i64 (f 4 + step1 (nth D.steps k) q 4 : Nat)))) := fun wq hq => by
          have hh := HS5.out.below (w' := wq) ((show Below w5.heap.size w5 w5.drew from ⟨rfl, rfl, rfl, Nat.le_refl _, fun _ _ => rfl⟩).trans hq)
          exact ((hh.perm (List.Perm.swap _ _ _)).fill5 (fun j => f j + step1 (nth D.steps k) q j)).perm (List.Perm.swap _ _ _)
        obtain ⟨⟨⟨x0, x1, x2, x3, x4⟩, y0, y1, y2, y3, y4⟩, z0, z1, z2, z3, z4⟩ := HX10.out _ (Below.refl _ _)
        simp only [World.cell?_drew, World.frozen?_drew] at x0 x1 x2 x3 x4 y0 y1 y2 y3 y4 z0 z1 z2 z3 z4
        clear HS5
        go_upto_region 10 with fail
        go_region_with (first | (go_at_call 27; refine (ofStep_any (nth D.steps k) q hq4 ka na _ kc _ nc _).mono ?_; rintro e w6 ⟨rfl, hb6⟩; have HB6 : Hid (Below w5.drew.heap.size w5.drew w6) := hb6; obtain ⟨⟨⟨r0, r1, r2, r3, r4⟩, s0, s1, s2, s3, s4⟩, _⟩ := HX10.out _ hb6; clear hb6) | (go_at_call 25; refine (and_ex f (step1 (nth D.steps k) q) HF10.out HG10.out _).mono ?_; rintro e w7 ⟨rfl, hb7⟩; have HB7 : Hid (Below w5.drew.heap.size w5.drew w7) := HB6.out.trans (hb7.mono HB6.out.size); obtain ⟨⟨⟨r0, r1, r2, r3, r4⟩, s0, s1, s2, s3, s4⟩, _⟩ := HX10.out _ HB7.out; clear hb7))
        all_goals
          have HE := HY10.out _ HB7.out
          have HE : Hid (Has w.heap.size w [BlockR sb (fl (rec5 (D.steps.take (k + 1)))), BlockR (w.heap.size + 1) (fl fun _ => 0), BlockR w.heap.size [.string D.name, .slice (some ⟨g, o, none⟩) D.steps.length cap]] (((((w7.setCell ⟨sb, 0, none⟩ (.int .i64 (f 0 + step1 (nth D.steps k) q 0 : Nat))).setCell ⟨sb, 1, none⟩ (.int .i64 (f 1 + step1 (nth D.steps k) q 1 : Nat))).setCell ⟨sb, 2, none⟩ (.int .i64 (f 2 + step1 (nth D.steps k) q 2 : Nat))).setCell ⟨sb, 3, none⟩ (.int .i64 (f 3 + step1 (nth D.steps k) q 3 : Nat))).setCell ⟨sb, 4, none⟩ (.int .i64 (f 4 + step1 (nth D.steps k) q 4 : Nat)))) := by
            have h := HE.drop
            rw [fl_congr (f := fun j => f j + step1 (nth D.steps k) q j) (g := rec5 (D.steps.take (k + 1))) (fun j hj => by rw [take_nth hlt, rec5_old hq4 HQ.out hnm j hj, ← HF.out])] at h
            exact h
          clear HX10 HY10 HB6 HB7 r0 r1 r2 r3 r4 s0 s1 s2 s3 s4 x0 x1 x2 x3 x4 y0 y1 y2 y3 y4 z0 z1 z2 z3 z4
          go_wp2
          exact ⟨⟨k + 1, by omega, by go_num, HE⟩, by simp [intOf]; omega⟩
      · have hz : ((f q : Int) == 0) = true := by
          have : rec5 (D.steps.take k) q = 0 := by
            unfold rec5
            rw [if_neg (by omega)]
            exact cP_zero.2 (by simpa using hnm)
          rw [← HF.out, this]; rfl
        have hnm2 : nmd (D.steps.take k) q = false := by simpa using hnm
        have HF9 : Hid (∀ j, f j ≤ 1000000) := fun j => by have := HB1.out j; omega
        have HG9 : Hid (∀ j, named1 q j ≤ 1000000) := fun j => by unfold named1; split <;> (try split) <;> omega
        go_upto_region 9 with fail
        generalize (wr.alloc (.cells #[.string (nth D.steps k).name, .int .i64 (nth D.steps k).kind, .int .i64 (q : Int), .slice ka (nth D.steps k).keys.length kc, .slice na (nth D.steps k).needs.length nc] 44)) = w5 at *
        generalize wr.heap.size = tb at *
        clear d0 d1 d2 d3 d4 H s5
        have HX9 : Hid (∀ wq, Below w5.drew.heap.size w5.drew wq → ((wq.cell? ⟨sb, 0, none⟩ = some (.int .i64 (f 0 : Nat)) ∧ wq.cell? ⟨sb, 1, none⟩ = some (.int .i64 (f 1 : Nat)) ∧ wq.cell? ⟨sb, 2, none⟩ = some (.int .i64 (f 2 : Nat)) ∧ wq.cell? ⟨sb, 3, none⟩ = some (.int .i64 (f 3 : Nat)) ∧ wq.cell? ⟨sb, 4, none⟩ = some (.int .i64 (f 4 : Nat))) ∧ (wq.frozen? ⟨sb, 0, none⟩ = false ∧ wq.frozen? ⟨sb, 1, none⟩ = false ∧ wq.frozen? ⟨sb, 2, none⟩ = false ∧ wq.frozen? ⟨sb, 3, none⟩ = false ∧ wq.frozen? ⟨sb, 4, none⟩ = false)) ∧ (wq.cell? ⟨tb, 0, none⟩ = some (.string (nth D.steps k).name) ∧ wq.cell? ⟨tb, 1, none⟩ = some (.int .i64 (nth D.steps k).kind) ∧ wq.cell? ⟨tb, 2, none⟩ = some (.int .i64 (q : Int)) ∧ wq.cell? ⟨tb, 3, none⟩ = some (.slice ka (nth D.steps k).keys.length kc) ∧ wq.cell? ⟨tb, 4, none⟩ = some (.slice na (nth D.steps k).needs.length nc))) := fun wq hq => by
          have hh := HS5.out.below (w' := wq) ((show Below w5.heap.size w5 w5.drew from ⟨rfl, rfl, rfl, Nat.le_refl _, fun _ _ => rfl⟩).trans hq)
          obtain ⟨a0, b0⟩ := hh.five (q := sb) (f := f) (by simp) 0 (by omega)
          obtain ⟨a1, b1⟩ := hh.five (q := sb) (f := f) (by simp) 1 (by omega)
          obtain ⟨a2, b2⟩ := hh.five (q := sb) (f := f) (by simp) 2 (by omega)
          obtain ⟨a3, b3⟩ := hh.five (q := sb) (f := f) (by simp) 3 (by omega)
          obtain ⟨a4, b4⟩ := hh.five (q := sb) (f := f) (by simp) 4 (by omega)
          exact ⟨⟨⟨a0, a1, a2, a3, a4⟩, b0, b1, b2, b3, b4⟩, (hh.cell List.mem_cons_self 0 _ rfl).1, (hh.cell List.mem_cons_self 1 _ rfl).1, (hh.cell List.mem_cons_self 2 _ rfl).1, (hh.cell List.mem_cons_self 3 _ rfl).1, (hh.cell List.mem_cons_self 4 _ rfl).1⟩
        have HY9 : Hid (∀ wq, Below w5.drew.heap.size w5.drew wq → Has w.heap.size w [BlockR tb [.string (nth D.steps k).name, .int .i64 (nth D.steps k).kind, .int .i64 (q : Int), .slice ka (nth D.steps k).keys.length kc, .slice na (nth D.steps k).needs.length nc], BlockR sb (fl (fun j => f j + named1 q j)), BlockR (w.heap.size + 1) (fl fun _ => 0), BlockR w.heap.size [.string D.name, .slice (some ⟨g, o, none⟩) D.steps.length cap]] (((((wq.setCell ⟨sb, 0, none⟩ (.int .i64 (f 0 + named1 q 0 : Nat))).setCell ⟨sb, 1, none⟩ (.int .i64 (f 1 + named1 q 1 : Nat))).setCell ⟨sb, 2, none⟩ (.int .i64 (f 2 + named1 q 2 : Nat))).setCell ⟨sb, 3, none⟩ (.int .i64 (f 3 + named1 q 3 : Nat))).setCell ⟨sb, 4, none⟩ (.int .i64 (f 4 + named1 q 4 : Nat)))) := fun wq hq => by
          have hh := HS5.out.below (w' := wq) ((show Below w5.heap.size w5 w5.drew from ⟨rfl, rfl, rfl, Nat.le_refl _, fun _ _ => rfl⟩).trans hq)
          exact ((hh.perm (List.Perm.swap _ _ _)).fill5 (fun j => f j + named1 q j)).perm (List.Perm.swap _ _ _)
        obtain ⟨⟨⟨x0, x1, x2, x3, x4⟩, y0, y1, y2, y3, y4⟩, z0, z1, z2, z3, z4⟩ := HX9.out _ (Below.refl _ _)
        simp only [World.cell?_drew, World.frozen?_drew] at x0 x1 x2 x3 x4 y0 y1 y2 y3 y4 z0 z1 z2 z3 z4
        clear HS5
        go_upto_region 9 with fail
        go_cut [] (fun wx => Hid (Has w.heap.size w [BlockR tb [.string (nth D.steps k).name, .int .i64 (nth D.steps k).kind, .int .i64 (q : Int), .slice ka (nth D.steps k).keys.length kc, .slice na (nth D.steps k).needs.length nc], BlockR sb (fl (fun j => f j + named1 q j)), BlockR (w.heap.size + 1) (fl fun _ => 0), BlockR w.heap.size [.string D.name, .slice (some ⟨g, o, none⟩) D.steps.length cap]] wx))
        case first =>
          go_region_with (first | (go_at_call 26; refine (ofNamed_any q hq4 _).mono ?_; rintro e w6 ⟨rfl, hb6⟩; have HB6 : Hid (Below w5.drew.heap.size w5.drew w6) := hb6; obtain ⟨⟨⟨r0, r1, r2, r3, r4⟩, s0, s1, s2, s3, s4⟩, _⟩ := HX9.out _ hb6; clear hb6) | (go_at_call 25; refine (and_ex f (named1 q) HF9.out HG9.out _).mono ?_; rintro e w7 ⟨rfl, hb7⟩; have HB7 : Hid (Below w5.drew.heap.size w5.drew w7) := HB6.out.trans (hb7.mono HB6.out.size); obtain ⟨⟨⟨r0, r1, r2, r3, r4⟩, s0, s1, s2, s3, s4⟩, _⟩ := HX9.out _ HB7.out; clear hb7))
          all_goals (have hfin := HY9.out _ HB7.out; go_wp2_with fail; go_meet; exact hfin)
        case rest =>
          have HZ9 := hcut
          clear HX9 HY9 x0 x1 x2 x3 x4 y0 y1 y2 y3 y4 z0 z1 z2 z3 z4
          generalize hF2 : (fun j => f j + named1 q j) = f2 at *
          have HF2 : Hid ((fun j => f j + named1 q j) = f2) := hF2
          clear hF2
          have HF10 : Hid (∀ j, f2 j ≤ 1000000) := fun j => by
            rw [← HF2.out]
            show f j + named1 q j ≤ _
            have := HB1.out j
            have : named1 q j ≤ 1 := by unfold named1; split <;> (try split) <;> omega
            omega
          have HX10 : Hid (∀ wq, Below wc.drew.heap.size wc.drew wq → ((wq.cell? ⟨sb, 0, none⟩ = some (.int .i64 (f2 0 : Nat)) ∧ wq.cell? ⟨sb, 1, none⟩ = some (.int .i64 (f2 1 : Nat)) ∧ wq.cell? ⟨sb, 2, none⟩ = some (.int .i64 (f2 2 : Nat)) ∧ wq.cell? ⟨sb, 3, none⟩ = some (.int .i64 (f2 3 : Nat)) ∧ wq.cell? ⟨sb, 4, none⟩ = some (.int .i64 (f2 4 : Nat))) ∧ (wq.frozen? ⟨sb, 0, none⟩ = false ∧ wq.frozen? ⟨sb, 1, none⟩ = false ∧ wq.frozen? ⟨sb, 2, none⟩ = false ∧ wq.frozen? ⟨sb, 3, none⟩ = false ∧ wq.frozen? ⟨sb, 4, none⟩ = false)) ∧ (wq.cell? ⟨tb, 0, none⟩ = some (.string (nth D.steps k).name) ∧ wq.cell? ⟨tb, 1, none⟩ = some (.int .i64 (nth D.steps k).kind) ∧ wq.cell? ⟨tb, 2, none⟩ = some (.int .i64 (q : Int)) ∧ wq.cell? ⟨tb, 3, none⟩ = some (.slice ka (nth D.steps k).keys.length kc) ∧ wq.cell? ⟨tb, 4, none⟩ = some (.slice na (nth D.steps k).needs.length nc))) := fun wq hq => by
            have hh := HZ9.out.below (w' := wq) ((show Below wc.heap.size wc wc.drew from ⟨rfl, rfl, rfl, Nat.le_refl _, fun _ _ => rfl⟩).trans hq)
            obtain ⟨a0, b0⟩ := hh.five (q := sb) (f := f2) (by simp) 0 (by omega)
            obtain ⟨a1, b1⟩ := hh.five (q := sb) (f := f2) (by simp) 1 (by omega)
            obtain ⟨a2, b2⟩ := hh.five (q := sb) (f := f2) (by simp) 2 (by omega)
            obtain ⟨a3, b3⟩ := hh.five (q := sb) (f := f2) (by simp) 3 (by omega)
            obtain ⟨a4, b4⟩ := hh.five (q := sb) (f := f2) (by simp) 4 (by omega)
            exact ⟨⟨⟨a0, a1, a2, a3, a4⟩, b0, b1, b2, b3, b4⟩, (hh.cell List.mem_cons_self 0 _ rfl).1, (hh.cell List.mem_cons_self 1 _ rfl).1, (hh.cell List.mem_cons_self 2 _ rfl).1, (hh.cell List.mem_cons_self 3 _ rfl).1, (hh.cell List.mem_cons_self 4 _ rfl).1⟩
          have HY10 : Hid (∀ wq, Below wc.drew.heap.size wc.drew wq → Has w.heap.size w [BlockR tb [.string (nth D.steps k).name, .int .i64 (nth D.steps k).kind, .int .i64 (q : Int), .slice ka (nth D.steps k).keys.length kc, .slice na (nth D.steps k).needs.length nc], BlockR sb (fl (fun j => f2 j + step1 (nth D.steps k) q j)), BlockR (w.heap.size + 1) (fl fun _ => 0), BlockR w.heap.size [.string D.name, .slice (some ⟨g, o, none⟩) D.steps.length cap]] (((((wq.setCell ⟨sb, 0, none⟩ (.int .i64 (f2 0 + step1 (nth D.steps k) q 0 : Nat))).setCell ⟨sb, 1, none⟩ (.int .i64 (f2 1 + step1 (nth D.steps k) q 1 : Nat))).setCell ⟨sb, 2, none⟩ (.int .i64 (f2 2 + step1 (nth D.steps k) q 2 : Nat))).setCell ⟨sb, 3, none⟩ (.int .i64 (f2 3 + step1 (nth D.steps k) q 3 : Nat))).setCell ⟨sb, 4, none⟩ (.int .i64 (f2 4 + step1 (nth D.steps k) q 4 : Nat)))) := fun wq hq => by
            have hh := HZ9.out.below (w' := wq) ((show Below wc.heap.size wc wc.drew from ⟨rfl, rfl, rfl, Nat.le_refl _, fun _ _ => rfl⟩).trans hq)
            exact ((hh.perm (List.Perm.swap _ _ _)).fill5 (fun j => f2 j + step1 (nth D.steps k) q j)).perm (List.Perm.swap _ _ _)
          obtain ⟨⟨⟨x0, x1, x2, x3, x4⟩, y0, y1, y2, y3, y4⟩, z0, z1, z2, z3, z4⟩ := HX10.out _ (Below.refl _ _)
          simp only [World.cell?_drew, World.frozen?_drew] at x0 x1 x2 x3 x4 y0 y1 y2 y3 y4 z0 z1 z2 z3 z4
          clear HZ9
          go_upto_region 10 with fail
          go_region_with (first | (go_at_call 27; refine (ofStep_any (nth D.steps k) q hq4 ka na _ kc _ nc _).mono ?_; rintro e w6 ⟨rfl, hb6⟩; have HB6 : Hid (Below wc.drew.heap.size wc.drew w6) := hb6; obtain ⟨⟨⟨r0, r1, r2, r3, r4⟩, s0, s1, s2, s3, s4⟩, _⟩ := HX10.out _ hb6; clear hb6) | (go_at_call 25; refine (and_ex f2 (step1 (nth D.steps k) q) HF10.out HG10.out _).mono ?_; rintro e w7 ⟨rfl, hb7⟩; have HB7 : Hid (Below wc.drew.heap.size wc.drew w7) := HB6.out.trans (hb7.mono HB6.out.size); obtain ⟨⟨⟨r0, r1, r2, r3, r4⟩, s0, s1, s2, s3, s4⟩, _⟩ := HX10.out _ HB7.out; clear hb7))
          all_goals
            have HE := HY10.out _ HB7.out
            have HE : Hid (Has w.heap.size w [BlockR sb (fl (rec5 (D.steps.take (k + 1)))), BlockR (w.heap.size + 1) (fl fun _ => 0), BlockR w.heap.size [.string D.name, .slice (some ⟨g, o, none⟩) D.steps.length cap]] (((((w7.setCell ⟨sb, 0, none⟩ (.int .i64 (f2 0 + step1 (nth D.steps k) q 0 : Nat))).setCell ⟨sb, 1, none⟩ (.int .i64 (f2 1 + step1 (nth D.steps k) q 1 : Nat))).setCell ⟨sb, 2, none⟩ (.int .i64 (f2 2 + step1 (nth D.steps k) q 2 : Nat))).setCell ⟨sb, 3, none⟩ (.int .i64 (f2 3 + step1 (nth D.steps k) q 3 : Nat))).setCell ⟨sb, 4, none⟩ (.int .i64 (f2 4 + step1 (nth D.steps k) q 4 : Nat)))) := by
              have h := HE.drop
              rw [fl_congr (f := fun j => f2 j + step1 (nth D.steps k) q j) (g := rec5 (D.steps.take (k + 1))) (fun j hj => by rw [take_nth hlt, rec5_new hq4 HQ.out hnm2 j hj, ← HF2.out, ← HF.out])] at h
              exact h
            clear HX10 HY10 HB6 HB7 r0 r1 r2 r3 r4 s0 s1 s2 s3 s4 x0 x1 x2 x3 x4 y0 y1 y2 y3 y4 z0 z1 z2 z3 z4
            go_wp2
            exact ⟨⟨k + 1, by omega, by go_num, HE⟩, by simp [intOf]; omega⟩
    · have hltI : ¬ (k : Int) < (D.steps.length : Int) := by omega
      have H0 := H.out
      rw [show k = D.steps.length by omega, List.take_length] at H0
      obtain ⟨i0, _⟩ := H0.five List.mem_cons_self 0 (by omega)
      obtain ⟨i1, _⟩ := H0.five List.mem_cons_self 1 (by omega)
      obtain ⟨i2, _⟩ := H0.five List.mem_cons_self 2 (by omega)
      obtain ⟨i3, _⟩ := H0.five List.mem_cons_self 3 (by omega)
      obtain ⟨i4, _⟩ := H0.five List.mem_cons_self 4 (by omega)
      have H1 := H0.perm (List.Perm.swap _ _ _)
      obtain ⟨j0, k0⟩ := H1.five List.mem_cons_self 0 (by omega)
      obtain ⟨j1, k1⟩ := H1.five List.mem_cons_self 1 (by omega)
      obtain ⟨j2, k2⟩ := H1.five List.mem_cons_self 2 (by omega)
      obtain ⟨j3, k3⟩ := H1.five List.mem_cons_self 3 (by omega)
      obtain ⟨j4, k4⟩ := H1.five List.mem_cons_self 4 (by omega)
      have H2 := H1.fill5 (rec5 D.steps)
      have HFC : Hid _ := fun (j : Nat) (hj : j < 5) => (H2.five List.mem_cons_self j hj).1
      have HFB : Hid _ := H2.bel
      clear H0 H1 H2 H HOK HROW
      go_wp2
      exact bodyPost_ret (results_cell5 rfl _ _ (w.heap.size + 1) (rec5 D.steps) _ rfl HFC.out Tryd.underlying47 rfl (by kernel_rfl)) rfl ⟨rfl, HFB.out⟩
end Go.Proofs.YtaeakednekbekaaDoor
