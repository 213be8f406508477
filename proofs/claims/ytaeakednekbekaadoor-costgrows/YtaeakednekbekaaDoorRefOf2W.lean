/- The walk of the document's Of, of a definition that may be. -/
import Derived.Test.YtaeakednekbekaaDoorRefOfW
set_option linter.unusedVariables false
set_option maxRecDepth 100000
namespace Go.Proofs.YtaeakednekbekaaDoor
open Go.RowKit CheckMath
open Go.Proofs.YtaeakednekbekaaDoor.Nm

theorem row_at {B : Nat} {w wr : World} {rs : List Res} {ao : Option Addr} {cap n : Nat} {L : List Nat} (h : Has B w rs wr) (hm : OwnR 3 1 (.slice ao n cap) L.length (L.map nV) ∈ rs) (i : Nat) (hi : i < L.length) :
    ∃ g, ao = some ⟨g, 0, none⟩ ∧ wr.cell? ⟨g, i, none⟩ = some (.int .i64 (L[i] : Nat)) := by
  obtain ⟨ao', cap', e, h1, h2, h3⟩ := own_form (h.own hm)
  cases e
  cases ao with
  | none => have := (h2 rfl).1; omega
  | some p =>
    obtain ⟨g, rfl, _, k2, k3, _, _⟩ := h3 p rfl
    refine ⟨g, rfl, ?_⟩
    rw [k3 i (by omega)]
    simp [nV, hi]

set_option maxHeartbeats 8000000 in
theorem refOf_good (v : Value) (D : DefD) (hz : SzD D) (w : World) (h : DefIn w v D) (hc : (checkM D).2 = 0) :
    Calls Tryd.prog 8 #[v] w fun e w' => e = .returned (.tuple #[.agg #[.int .i64 (rec5 D.steps 4 : Nat), .int .i64 (rec5 D.steps 0 : Nat), .int .i64 (rec5 D.steps 1 : Nat), .int .i64 (rec5 D.steps 2 : Nat), .int .i64 (rec5 D.steps 3 : Nat)], .int .i64 0]) ∧ Below w.heap.size w w' := by
  have CX : Hid (∀ wq, Below w.heap.size w wq → Calls Tryd.prog 16 #[v] wq fun e w' => e = .returned (.tuple #[.int .i64 (checkM D).1, .int .i64 0]) ∧ Below wq.heap.size wq w') := fun wq hq => by
    have := refCheck_any v D hz wq (h.below hq)
    rw [hc] at this
    exact this
  have CN : Hid (∀ wq, Below w.heap.size w wq → Calls Tryd.prog 10 #[v] wq fun e w' => ∃ v', e = .returned v' ∧ w'.ownsRow wq.heap.size 3 1 v' (nmL D.steps 4).length ((nmL D.steps 4).map nV) ∧ Below wq.heap.size wq w') := fun wq hq => by
    have := refNamed_any v D hz wq (h.below hq)
    have e : nbL (namedB D) 4 = nmL D.steps 4 := by
      unfold nbL nmL
      rw [show namedB D = nmd D.steps from funext fun p => by unfold namedB; rw [decide_eq_true hc, Bool.true_and]]
    rw [e] at this
    exact this
  have HOK : Hid (StepsOk D.steps) := steps_fine hc
  have HLL : Hid ((nmL D.steps 4).length ≤ 4 ∧ ∀ p, p ∈ nmL D.steps 4 → p < 4) := ⟨nmL_len _ _, fun p hp => nmL_lt hp⟩
  have HC12 : Hid (fl (c1F (nmL D.steps 4) (nmL D.steps 4).length) = fl (c2F D.steps 0)) := c12F D.steps
  obtain ⟨sv, rfl, hd⟩ := h
  obtain ⟨ao, cap, rfl, hcap, hn0, hlen, hrow⟩ := hd
  have HROW : Hid (∀ j, j < D.steps.length → ∃ g o, ao = some ⟨g, o, none⟩ ∧ g < w.heap.size ∧ StepIn w g (o + j * 5) (nth D.steps j)) := hrow
  have HS0 : Hid (Has w.heap.size w [BlockR (w.heap.size + 1) (fl fun _ => 0), BlockR w.heap.size [.string D.name, .slice ao D.steps.length cap]]
      ((w.alloc (.cells #[.string D.name, .slice ao D.steps.length cap] 24)).alloc (.cells #[.int .i64 0, .int .i64 0, .int .i64 0, .int .i64 0, .int .i64 0] 28))) := by
    have h1 := (Has.start w).box [.string D.name, .slice ao D.steps.length cap] 24
    have h2 := h1.box (fl fun _ => 0) 28
    have e : ∀ (w : World) (o : Obj), (w.alloc o).heap.size = w.heap.size + 1 := fun w o => by simp
    simp only [e] at h2
    exact h2
  generalize (checkM D).1 = m1 at *
  generalize nmL D.steps 4 = L at *
  clear hc hz hrow hn0
  go_enter Tryd.func8, Tryd.ntmps8
  go_wp2_with fail
  refine (CX.out _ HS0.out.bel).mono ?_
  rintro e w1 ⟨rfl, hb1⟩
  have HS1 : Hid (Has w.heap.size w [BlockR (w.heap.size + 1) (fl fun _ => 0), BlockR w.heap.size [.string D.name, .slice ao D.steps.length cap]] w1) := HS0.out.below hb1
  obtain ⟨b0, _⟩ := HS1.out.cell (q := w.heap.size) (vs := [.string D.name, .slice ao D.steps.length cap]) (by simp) 0 _ rfl
  obtain ⟨b1, _⟩ := HS1.out.cell (q := w.heap.size) (vs := [.string D.name, .slice ao D.steps.length cap]) (by simp) 1 _ rfl
  clear HS0 CX hb1
  go_wp2_with fail
  refine (CN.out _ HS1.out.bel).mono ?_
  rintro e w2 ⟨v', rfl, hown, hb2⟩
  obtain ⟨lo, lc, rfl, _⟩ := own_form hown
  have HS2 : Hid (Has w.heap.size w [OwnR 3 1 (.slice lo L.length lc) L.length (L.map nV), BlockR (w.heap.size + 1) (fl fun _ => 0), BlockR w.heap.size [.string D.name, .slice ao D.steps.length cap]] w2) := HS1.out.row hown hb2
  have hL4 : L.length ≤ 4 := HLL.out.1
  have HS3 : Hid (Has w.heap.size w [BlockR w2.heap.size (fl (c1F L 0)), OwnR 3 1 (.slice lo L.length lc) L.length (L.map nV), BlockR (w.heap.size + 1) (fl fun _ => 0), BlockR w.heap.size [.string D.name, .slice ao D.steps.length cap]]
      (w2.alloc (.cells #[.int .i64 (3 + (L.length : Int)), .int .i64 0, .int .i64 0, .int .i64 0, .int .i64 0] 28))) := by
    have h3 := HS2.out.box (fl (c1F L 0)) 28
    have e : (fl (c1F L 0)).toArray = #[.int .i64 (3 + (L.length : Int)), .int .i64 0, .int .i64 0, .int .i64 0, .int .i64 0] := by
      unfold fl c1F
      simp
    rw [e] at h3
    exact h3
  clear HS1 HS2 b0 b1 hown hb2 CN
  go_wp2_with fail
  generalize (w2.alloc (.cells #[.int .i64 (3 + (L.length : Int)), .int .i64 0, .int .i64 0, .int .i64 0, .int .i64 0] 28)) = w3 at *
  generalize w2.heap.size = cb at *
  go_loopw [8] (fun i wr => ∃ n : Nat, n ≤ L.length ∧ i = .int .i64 (n : Int) ∧ Hid (Has w.heap.size w [BlockR cb (fl (c1F L n)), OwnR 3 1 (.slice lo L.length lc) L.length (L.map nV), BlockR (w.heap.size + 1) (fl fun _ => 0), BlockR w.heap.size [.string D.name, .slice ao D.steps.length cap]] wr)) (fun i _ => L.length - (intOf i).toNat)
  case atStart => exact ⟨0, Nat.zero_le _, rfl, HS3⟩
  case round =>
    obtain ⟨n, hn, rfl, H⟩ := hrel
    clear HS3
    by_cases hlt : n < L.length
    · have hltI : (n : Int) < (L.length : Int) := by omega
      obtain ⟨g, rfl, x1⟩ := row_at (ao := lo) (cap := lc) (n := L.length) (L := L) H.out (by simp) n hlt
      have hq4 : L[n] < 4 := HLL.out.2 _ (List.getElem_mem hlt)
      have HLQ : Hid (fl (upd5 (c1F L n) (L[n] + 1) 1) = fl (c1F L (n + 1))) := c1F_set L n L[n] hlt rfl
      generalize L[n] = q at *
      have hq5 : (q : Int) < 4 := by omega
      obtain ⟨c1, c2⟩ := H.out.five List.mem_cons_self (q + 1) (by omega)
      rw [Nat.add_comm q 1] at c1 c2
      have H2 : Hid (Has w.heap.size w [BlockR cb (fl (c1F L (n + 1))), OwnR 3 1 (.slice (some ⟨g, 0, none⟩) L.length lc) L.length (L.map nV), BlockR (w.heap.size + 1) (fl fun _ => 0), BlockR w.heap.size [.string D.name, .slice ao D.steps.length cap]] (wr.setCell ⟨cb, 1 + q, none⟩ (.int .i64 1))) := by
        have h2 := H.out.put5 (q + 1) (by omega) 1
        rw [HLQ.out] at h2
        rw [show 1 + q = q + 1 by omega]
        exact h2
      clear H HLQ
      go_wp2
      exact ⟨⟨n + 1, by omega, by go_num, H2⟩, by simp [intOf]; omega⟩
    · have hltI : ¬ (n : Int) < (L.length : Int) := by omega
      have HT0 : Hid (Has w.heap.size w [BlockR cb (fl (c2F D.steps 0)), BlockR (w.heap.size + 1) (fl fun _ => 0), BlockR w.heap.size [.string D.name, .slice ao D.steps.length cap]] wr) := by
        have h := H.out
        rw [show n = L.length by omega, HC12.out] at h
        exact (h.perm (List.Perm.swap _ _ _)).drop
      clear H
      go_wp2_with fail
      go_loopw [9] (fun i wr => ∃ k : Nat, k ≤ D.steps.length ∧ i = .int .i64 (k : Int) ∧ Hid (Has w.heap.size w [BlockR cb (fl (c2F D.steps k)), BlockR (w.heap.size + 1) (fl fun _ => 0), BlockR w.heap.size [.string D.name, .slice ao D.steps.length cap]] wr)) (fun i _ => D.steps.length - (intOf i).toNat)
      case atStart => exact ⟨0, Nat.zero_le _, rfl, HT0⟩
      case round =>
        obtain ⟨k, hk, rfl, H⟩ := hrel
        clear HT0
        obtain ⟨p1, _⟩ := H.out.cell (q := w.heap.size) (vs := [.string D.name, .slice ao D.steps.length cap]) (by simp) 1 _ rfl
        by_cases hlk : k < D.steps.length
        · have hlkI : (k : Int) < (D.steps.length : Int) := by omega
          obtain ⟨g, o, rfl, hg, hs⟩ := HROW.out k hlk
          obtain ⟨s0, s1, s2, kv, nv, s3, s4, s5, s6⟩ := hs
          obtain ⟨ka, kc, rfl⟩ := s5.slice
          obtain ⟨na, nc, rfl⟩ := s6.slice
          have hbw := H.out.bel
          have d0 := (hbw.cell (p := ⟨g, o + k * 5, none⟩) hg).trans s0
          have d1 := (hbw.cell (p := ⟨g, o + k * 5 + 1, none⟩) hg).trans s1
          have d2 := (hbw.cell (p := ⟨g, o + k * 5 + 2, none⟩) hg).trans s2
          have d3 := (hbw.cell (p := ⟨g, o + k * 5 + 3, none⟩) hg).trans s3
          have d4 := (hbw.cell (p := ⟨g, o + k * 5 + 4, none⟩) hg).trans s4
          obtain ⟨q, hq⟩ : ∃ q : Nat, (nth D.steps k).part = (q : Int) := ⟨(nth D.steps k).part.toNat, by have := (HOK.out.2 k hlk).1; omega⟩
          have hq4 : q < 4 := by have := (HOK.out.2 k hlk).2; omega
          rw [hq] at d2
          have hq5 : (q : Int) < 4 := by omega
          have HSET : Hid (fl (upd5 (upd5 (c2F D.steps k) 0 (c2F D.steps k 0 + nOf (nth D.steps k) + 1)) (q + 1) (c2F D.steps k (q + 1) + nOf (nth D.steps k))) = fl (c2F D.steps (k + 1))) := c2F_set D.steps k q hlk hq hq4
          have hle1 := c2F_le D.steps HOK.out.1 k 0
          have hle2 := c2F_le D.steps HOK.out.1 k (q + 1)
          have hgr : g < wr.heap.size := Nat.lt_of_lt_of_le hg H.out.size
          obtain ⟨y0, z0⟩ := H.out.five List.mem_cons_self 0 (by omega)
          obtain ⟨y1, z1⟩ := H.out.five List.mem_cons_self (q + 1) (by omega)
          have hcb : cb < wr.heap.size := block_lt_of_cell y0
          clear s0 s1 s2 s3 s4 s5 s6 hbw hq
          have hkd : nOf (nth D.steps k) = if (nth D.steps k).kind = 1 then 2 else 1 := rfl
          have HNK : Hid (nOf (nth D.steps k) = if (nth D.steps k).kind = 1 then 2 else 1) := hkd
          clear hkd
          generalize hF : c2F D.steps k = f at *
          clear hF
          have hne1 : ¬ cb = wr.heap.size := by omega
          have hne2 : ¬ wr.heap.size = cb := by omega
          have HS5 : Hid (Has w.heap.size w [BlockR wr.heap.size [.string (nth D.steps k).name, .int .i64 (nth D.steps k).kind, .int .i64 (q : Int), .slice ka (nth D.steps k).keys.length kc, .slice na (nth D.steps k).needs.length nc], BlockR cb (fl f), BlockR (w.heap.size + 1) (fl fun _ => 0), BlockR w.heap.size [.string D.name, .slice (some ⟨g, o, none⟩) D.steps.length cap]]
              (wr.alloc (.cells #[.string (nth D.steps k).name, .int .i64 (nth D.steps k).kind, .int .i64 (q : Int), .slice ka (nth D.steps k).keys.length kc, .slice na (nth D.steps k).needs.length nc] 44))) := H.out.box [.string (nth D.steps k).name, .int .i64 (nth D.steps k).kind, .int .i64 (q : Int), .slice ka (nth D.steps k).keys.length kc, .slice na (nth D.steps k).needs.length nc] 44
          by_cases hk1 : (nth D.steps k).kind = 1
          · have hk1b : ((nth D.steps k).kind == 1) = true := by simpa using hk1
            have hn2 : nOf (nth D.steps k) = 2 := by rw [HNK.out, if_pos hk1]
            rw [hn2] at HSET
            clear hk1 hn2
            go_upto_region 17 with fail
            generalize (wr.alloc (.cells #[.string (nth D.steps k).name, .int .i64 (nth D.steps k).kind, .int .i64 (q : Int), .slice ka (nth D.steps k).keys.length kc, .slice na (nth D.steps k).needs.length nc] 44)) = w5 at *
            generalize wr.heap.size = tb at *
            obtain ⟨v2, _⟩ := HS5.out.cell List.mem_cons_self 2 _ rfl
            have H6 := (HS5.out.perm (List.Perm.swap _ _ _))
            obtain ⟨v3, v4⟩ := H6.five List.mem_cons_self 0 (by omega)
            obtain ⟨v5, v6⟩ := H6.five List.mem_cons_self (q + 1) (by omega)
            rw [Nat.add_comm q 1] at v5 v6
            have HE : Hid (Has w.heap.size w [BlockR cb (fl (c2F D.steps (k + 1))), BlockR (w.heap.size + 1) (fl fun _ => 0), BlockR w.heap.size [.string D.name, .slice (some ⟨g, o, none⟩) D.steps.length cap]] ((w5.setCell ⟨cb, 0, none⟩ (.int .i64 ((f 0 : Int) + 2 + 1))).setCell ⟨cb, 1 + q, none⟩ (.int .i64 ((f (1 + q) : Int) + 2))).drew) := by
              have h1 := (H6.put5 0 (by omega) (f 0 + 2 + 1)).put5 (q + 1) (by omega) (f (q + 1) + 2)
              rw [HSET.out] at h1
              have h2 := (h1.perm (List.Perm.swap _ _ _)).drop
              rw [show 1 + q = q + 1 by omega]
              exact h2.below ⟨rfl, rfl, rfl, Nat.le_refl _, fun _ _ => rfl⟩
            rw [Nat.add_comm q 1] at hle2
            clear d0 d1 d2 d3 d4 y0 y1 z0 z1 H H6 HS5 HSET HNK p1 hgr hcb hne1 hne2
            go_wp2
            go_region
            all_goals go_wp2
            all_goals exact ⟨⟨k + 1, by omega, by go_num, HE⟩, by simp [intOf]; omega⟩
          · have hk1b : ((nth D.steps k).kind == 1) = false := by simpa using hk1
            have hn2 : nOf (nth D.steps k) = 1 := by rw [HNK.out, if_neg hk1]
            rw [hn2] at HSET
            clear hk1 hn2
            go_upto_region 17 with fail
            generalize (wr.alloc (.cells #[.string (nth D.steps k).name, .int .i64 (nth D.steps k).kind, .int .i64 (q : Int), .slice ka (nth D.steps k).keys.length kc, .slice na (nth D.steps k).needs.length nc] 44)) = w5 at *
            generalize wr.heap.size = tb at *
            obtain ⟨v2, _⟩ := HS5.out.cell List.mem_cons_self 2 _ rfl
            have H6 := (HS5.out.perm (List.Perm.swap _ _ _))
            obtain ⟨v3, v4⟩ := H6.five List.mem_cons_self 0 (by omega)
            obtain ⟨v5, v6⟩ := H6.five List.mem_cons_self (q + 1) (by omega)
            rw [Nat.add_comm q 1] at v5 v6
            have HE : Hid (Has w.heap.size w [BlockR cb (fl (c2F D.steps (k + 1))), BlockR (w.heap.size + 1) (fl fun _ => 0), BlockR w.heap.size [.string D.name, .slice (some ⟨g, o, none⟩) D.steps.length cap]] ((w5.setCell ⟨cb, 0, none⟩ (.int .i64 ((f 0 : Int) + 1 + 1))).setCell ⟨cb, 1 + q, none⟩ (.int .i64 ((f (1 + q) : Int) + 1))).drew) := by
              have h1 := (H6.put5 0 (by omega) (f 0 + 1 + 1)).put5 (q + 1) (by omega) (f (q + 1) + 1)
              rw [HSET.out] at h1
              have h2 := (h1.perm (List.Perm.swap _ _ _)).drop
              rw [show 1 + q = q + 1 by omega]
              exact h2.below ⟨rfl, rfl, rfl, Nat.le_refl _, fun _ _ => rfl⟩
            rw [Nat.add_comm q 1] at hle2
            clear d0 d1 d2 d3 d4 y0 y1 z0 z1 H H6 HS5 HSET HNK p1 hgr hcb hne1 hne2
            go_wp2
            go_region
            all_goals go_wp2
            all_goals exact ⟨⟨k + 1, by omega, by go_num, HE⟩, by simp [intOf]; omega⟩
        · have hlkI : ¬ (k : Int) < (D.steps.length : Int) := by omega
          have H0 := H.out
          rw [show k = D.steps.length by omega, c2F_end] at H0
          obtain ⟨i0, _⟩ := H0.five List.mem_cons_self 0 (by omega)
          obtain ⟨i1, _⟩ := H0.five List.mem_cons_self 1 (by omega)
          obtain ⟨i2, _⟩ := H0.five List.mem_cons_self 2 (by omega)
          obtain ⟨i3, _⟩ := H0.five List.mem_cons_self 3 (by omega)
          obtain ⟨i4, _⟩ := H0.five List.mem_cons_self 4 (by omega)
          have H1 := H0.perm (List.Perm.swap _ _ _)
          obtain ⟨j0, k0⟩ := H1.five List.mem_cons_self 0 (by omega)
          obtain ⟨j1, k1⟩ := H1.five List.mem_cons_self 1 (by omega)
          obtain ⟨j2, k2⟩ := H1.five List.mem_cons_self 2 (by omega)
          obtain ⟨j3, k3⟩ := H1.five List.mem_cons_self 3 (by omega)
          obtain ⟨j4, k4⟩ := H1.five List.mem_cons_self 4 (by omega)
          have H2 := H1.fill5 (costF (rec5 D.steps))
          have HFC : Hid (∀ j, j < 5 → (((((wr.setCell ⟨w.heap.size + 1, 0, none⟩ (.int .i64 (rec5 D.steps 4 : Nat))).setCell ⟨w.heap.size + 1, 1, none⟩ (.int .i64 (rec5 D.steps 0 : Nat))).setCell ⟨w.heap.size + 1, 2, none⟩ (.int .i64 (rec5 D.steps 1 : Nat))).setCell ⟨w.heap.size + 1, 3, none⟩ (.int .i64 (rec5 D.steps 2 : Nat))).setCell ⟨w.heap.size + 1, 4, none⟩ (.int .i64 (rec5 D.steps 3 : Nat))).cell? ⟨w.heap.size + 1, j, none⟩ = some (.int .i64 (costF (rec5 D.steps) j : Nat))) := fun (j : Nat) (hj : j < 5) => (H2.five List.mem_cons_self j hj).1
          have HFB : Hid (Below w.heap.size w (((((wr.setCell ⟨w.heap.size + 1, 0, none⟩ (.int .i64 (rec5 D.steps 4 : Nat))).setCell ⟨w.heap.size + 1, 1, none⟩ (.int .i64 (rec5 D.steps 0 : Nat))).setCell ⟨w.heap.size + 1, 2, none⟩ (.int .i64 (rec5 D.steps 1 : Nat))).setCell ⟨w.heap.size + 1, 3, none⟩ (.int .i64 (rec5 D.steps 2 : Nat))).setCell ⟨w.heap.size + 1, 4, none⟩ (.int .i64 (rec5 D.steps 3 : Nat)))) := H2.bel
          rw [show costF (rec5 D.steps) 0 = rec5 D.steps 4 from rfl] at i0
          rw [show costF (rec5 D.steps) 1 = rec5 D.steps 0 from rfl] at i1
          rw [show costF (rec5 D.steps) 2 = rec5 D.steps 1 from rfl] at i2
          rw [show costF (rec5 D.steps) 3 = rec5 D.steps 2 from rfl] at i3
          rw [show costF (rec5 D.steps) 4 = rec5 D.steps 3 from rfl] at i4
          clear H0 H1 H2 H HROW HOK
          go_wp2
          have e0 := HFC.out 0 (by omega)
          have e1 := HFC.out 1 (by omega)
          have e2 := HFC.out 2 (by omega)
          have e3 := HFC.out 3 (by omega)
          have e4 := HFC.out 4 (by omega)
          exact bodyPost_ret (results_five_tmp rfl _ _ (w.heap.size + 1) _ _ _ _ _ _ rfl e0 e1 e2 e3 e4 Tryd.underlying28 rfl (by kernel_rfl)) rfl ⟨rfl, HFB.out⟩
end Go.Proofs.YtaeakednekbekaaDoor
