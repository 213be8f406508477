/- The walks of the document's order and loose. -/
import Derived.Test.YtaeakednekbekaaDoorRefAW
set_option linter.unusedVariables false
set_option maxRecDepth 100000
namespace Go.Proofs.YtaeakednekbekaaDoor
open Go.RowKit CheckMath
open Go.Proofs.YtaeakednekbekaaDoor.Nm

set_option maxHeartbeats 4000000 in
theorem refOrder_any (v : Value) (D : DefD) (hN : Needy D.steps) (i : Nat) (hi : i < D.steps.length) (w : World) (h : DefIn w v D) :
    Calls Tryd.prog 33 #[v, .int .i64 (i : Int)] w fun e w' => e = .returned (.bool (tt (OutOfOrder D.steps i))) ∧ Below w.heap.size w w' := by
  obtain ⟨sv, rfl, hd⟩ := h
  obtain ⟨ao, cap, rfl, hcap, hn0, hlen, hrow⟩ := hd
  obtain ⟨g, o, rfl, hg, hs⟩ := hrow i hi
  have HR : Hid (∀ j, j < D.steps.length → StepIn w g (o + j * 5) (nth D.steps j)) := fun j hj => by
    obtain ⟨g', o', e, _, k⟩ := hrow j hj
    cases e
    exact k
  have HNY : Hid (Needy D.steps) := hN
  have hb0 : Below w.heap.size w (w.alloc (.cells #[.string D.name, .slice (some ⟨g, o, none⟩) D.steps.length cap] 24)) := (Below.refl _ _).alloc (Nat.le_refl _) _
  obtain ⟨c0, c1, c2, kv, nv, c3, c4, c5, c6⟩ := hs.below hg hb0
  obtain ⟨ka, kc, rfl⟩ := c5.slice
  obtain ⟨na, nc, rfl, hnc, _, hnl, hnr⟩ := c6
  have hs1 : (w.alloc (.cells #[.string D.name, .slice (some ⟨g, o, none⟩) D.steps.length cap] 24)).heap.size = w.heap.size + 1 := by simp
  have HW : Hid (∀ wq, Below ((w.alloc (.cells #[.string D.name, .slice (some ⟨g, o, none⟩) D.steps.length cap] 24)).alloc (.cells #[.string (nth D.steps i).name, .int .i64 (nth D.steps i).kind, .int .i64 (nth D.steps i).part, .slice ka (nth D.steps i).keys.length kc, .slice na (nth D.steps i).needs.length nc] 44)).heap.size ((w.alloc (.cells #[.string D.name, .slice (some ⟨g, o, none⟩) D.steps.length cap] 24)).alloc (.cells #[.string (nth D.steps i).name, .int .i64 (nth D.steps i).kind, .int .i64 (nth D.steps i).part, .slice ka (nth D.steps i).keys.length kc, .slice na (nth D.steps i).needs.length nc] 44)) wq →
      Below w.heap.size w wq ∧ wq.cell? ⟨w.heap.size, 1, none⟩ = some (.slice (some ⟨g, o, none⟩) D.steps.length cap) ∧ wq.cell? ⟨w.heap.size + 1, 1, none⟩ = some (.int .i64 (nth D.steps i).kind) ∧ wq.cell? ⟨w.heap.size + 1, 4, none⟩ = some (.slice na (nth D.steps i).needs.length nc) ∧
      ∀ j, j < (nth D.steps i).needs.length → ∃ g o, na = some ⟨g, o, none⟩ ∧ wq.cell? ⟨g, o + j, none⟩ = some (.int .i64 (needAt (nth D.steps i).needs j))) := fun wq hb => by
    generalize hw0 : w.alloc (.cells #[.string D.name, .slice (some ⟨g, o, none⟩) D.steps.length cap] 24) = w0 at *
    have h1 : Below w0.heap.size w0 (w0.alloc (.cells #[.string (nth D.steps i).name, .int .i64 (nth D.steps i).kind, .int .i64 (nth D.steps i).part, .slice ka (nth D.steps i).keys.length kc, .slice na (nth D.steps i).needs.length nc] 44)) := (Below.refl _ _).alloc (Nat.le_refl _) _
    have h2 : Below w0.heap.size w0 wq := h1.trans (hb.mono h1.size)
    refine ⟨hb0.trans (h2.mono hb0.size), ?_, ?_, ?_, fun j hj => ?_⟩
    · rw [h2.cell (p := ⟨w.heap.size, 1, none⟩) (by show w.heap.size < _; omega), ← hw0, World.cell?_alloc_new]; rfl
    · rw [hb.cell (p := ⟨w.heap.size + 1, 1, none⟩) (by simp; omega), ← hs1, World.cell?_alloc_new]; rfl
    · rw [hb.cell (p := ⟨w.heap.size + 1, 4, none⟩) (by simp; omega), ← hs1, World.cell?_alloc_new]; rfl
    · obtain ⟨g2, o2, e1, e2, e3⟩ := hnr j hj
      exact ⟨g2, o2, e1, (h2.cell (p := ⟨g2, o2 + j, none⟩) e2).trans e3⟩
  have HB0 : Hid _ := Below.refl ((w.alloc (.cells #[.string D.name, .slice (some ⟨g, o, none⟩) D.steps.length cap] 24)).alloc (.cells #[.string (nth D.steps i).name, .int .i64 (nth D.steps i).kind, .int .i64 (nth D.steps i).part, .slice ka (nth D.steps i).keys.length kc, .slice na (nth D.steps i).needs.length nc] 44)).heap.size ((w.alloc (.cells #[.string D.name, .slice (some ⟨g, o, none⟩) D.steps.length cap] 24)).alloc (.cells #[.string (nth D.steps i).name, .int .i64 (nth D.steps i).kind, .int .i64 (nth D.steps i).part, .slice ka (nth D.steps i).keys.length kc, .slice na (nth D.steps i).needs.length nc] 44))
  obtain ⟨c0, c1, c2, kv2, nv2, c3, c4, _, _⟩ := hs
  have e3 : w.cell? ⟨g, o + i * 5 + 3, none⟩ = some (.slice ka (nth D.steps i).keys.length kc) := by rw [← hb0.cell (p := ⟨g, o + i * 5 + 3, none⟩) hg]; assumption
  have e4 : w.cell? ⟨g, o + i * 5 + 4, none⟩ = some (.slice na (nth D.steps i).needs.length nc) := by rw [← hb0.cell (p := ⟨g, o + i * 5 + 4, none⟩) hg]; assumption
  have hiI : (i : Int) < (D.steps.length : Int) := by omega
  clear hrow hn0 hnr c3 c4 hb0 hs1 hN
  go_enter Tryd.func33, Tryd.ntmps33
  go_wp2
  generalize ((w.alloc (.cells #[.string D.name, .slice (some ⟨g, o, none⟩) D.steps.length cap] 24)).alloc (.cells #[.string (nth D.steps i).name, .int .i64 (nth D.steps i).kind, .int .i64 (nth D.steps i).part, .slice ka (nth D.steps i).keys.length kc, .slice na (nth D.steps i).needs.length nc] 44)) = w0 at *
  go_loopw [6] (fun k wr => ∃ n : Nat, n ≤ (nth D.steps i).needs.length ∧ k = .int .i64 (n : Int) ∧ Hid (Below w0.heap.size w0 wr) ∧ Hid (∀ j, j < n → (nth D.steps (needAt (nth D.steps i).needs j).toNat).kind = 1)) (fun k _ => (nth D.steps i).needs.length - (intOf k).toNat)
  case atStart => exact ⟨0, Nat.zero_le _, rfl, HB0, fun j hj => absurd hj (Nat.not_lt_zero _)⟩
  case round =>
    obtain ⟨n, hn, rfl, HB, HN⟩ := hrel
    obtain ⟨hbw, p1, p2, p3, p4⟩ := HW.out _ HB.out
    have HBW : Hid (Below w.heap.size w wr) := hbw
    have HP4 : Hid (∀ j, j < (nth D.steps i).needs.length → ∃ g o, na = some ⟨g, o, none⟩ ∧ wr.cell? ⟨g, o + j, none⟩ = some (.int .i64 (needAt (nth D.steps i).needs j))) := p4
    clear hbw p4
    by_cases hq : (nth D.steps i).kind = 3
    · have HE : Hid (tt (OutOfOrder D.steps i) = false) := tt_no (fun h => h.1 hq)
      have h' : ((nth D.steps i).kind != (3 : Int)) = false := by simpa using hq
      clear hq HN HR HP4
      by_cases hlt : n < (nth D.steps i).needs.length
      · have hltI : (n : Int) < ((nth D.steps i).needs.length : Int) := by omega
        go_wp2
        go_ret
        rw [HE.out]
        exact ⟨rfl, HBW.out⟩
      · have hltI : ¬ (n : Int) < ((nth D.steps i).needs.length : Int) := by omega
        go_wp2
        go_ret
        rw [HE.out]
        exact ⟨rfl, HBW.out⟩
    have HQ : Hid (¬ (nth D.steps i).kind = 3) := hq
    have h' : ((nth D.steps i).kind != (3 : Int)) = true := by simpa using hq
    clear hq
    by_cases hlt : n < (nth D.steps i).needs.length
    · obtain ⟨g2, o2, rfl, d0⟩ := HP4.out n hlt
      obtain ⟨x0, x1, _⟩ := HNY.out i hi _ (needAt_mem hlt)
      have HM : Hid (needAt (nth D.steps i).needs n ∈ (nth D.steps i).needs) := needAt_mem hlt
      obtain ⟨x, hx⟩ : ∃ x : Nat, needAt (nth D.steps i).needs n = (x : Int) := ⟨_, (Int.toNat_of_nonneg x0).symm⟩
      rw [hx] at d0 x1
      obtain ⟨_, d2, _⟩ := (HR.out x (by omega)).below hg HBW.out
      have HX : Hid (needAt (nth D.steps i).needs n = (x : Int)) := hx
      have hltI : (n : Int) < ((nth D.steps i).needs.length : Int) := by omega
      clear x0 hx c0 c1 c2 e3 e4 HR HP4
      by_cases hk : (nth D.steps x).kind = 1
      · have hk' : ((nth D.steps x).kind != (1 : Int)) = false := by simpa using hk
        have HN2 : Hid (∀ j, j < n + 1 → (nth D.steps (needAt (nth D.steps i).needs j).toNat).kind = 1) := fun j hj => by
          by_cases e : j = n
          · subst e; rw [HX.out]; exact hk
          · exact HN.out j (by omega)
        clear hk HN
        go_wp2
        go_quiet (fail)
        go_wp2
        exact ⟨⟨n + 1, by omega, by go_num, below_drewN HB.out _, HN2⟩, by simp [intOf]; omega⟩
      · have hk' : ((nth D.steps x).kind != (1 : Int)) = true := by simpa using hk
        have HE : Hid (tt (OutOfOrder D.steps i) = true) := tt_yes ⟨HQ.out, _, HM.out, by rw [HX.out]; exact hk⟩
        clear hk HN
        go_wp2
        go_quiet (fail)
        go_wp2
        go_ret
        rw [HE.out]
        exact ⟨rfl, below_drewN HBW.out _⟩
    · have hltI : ¬ (n : Int) < ((nth D.steps i).needs.length : Int) := by omega
      have HE : Hid (tt (OutOfOrder D.steps i) = false) := tt_no (fun ⟨_, x, hx, e⟩ => by
        obtain ⟨j, hj, rfl⟩ := mem_needAt hx
        exact e (HN.out j (by omega)))
      clear HN HR HP4
      go_wp2
      go_ret
      rw [HE.out]
      exact ⟨rfl, HBW.out⟩
end Go.Proofs.YtaeakednekbekaaDoor
