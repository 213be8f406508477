/- The walks of the document's alone, together and Check. -/
import Derived.Test.YtaeakednekbekaaDoorRefYW
import Derived.Test.YtaeakednekbekaaDoorRefKW
import Derived.Test.YtaeakednekbekaaDoorRefRW
import Derived.Test.YtaeakednekbekaaDoorRefLW
set_option linter.unusedVariables false
set_option maxRecDepth 100000
namespace Go.Proofs.YtaeakednekbekaaDoor
open Go.RowKit CheckMath
open Go.Proofs.YtaeakednekbekaaDoor.Nm

/-- What is known of the sizes of a definition's texts. -/
def faultR (b1 b2 : Bool) (kd pt : Int) (b3 b4 : Bool) : Int := if b1 = false then 110 else if b2 = true then 112 else if kd < 1 ∨ kd > 3 then 113 else if pt < 0 ∨ pt ≥ 4 then 114 else if b3 = false then 115 else if b4 = false then 116 else 0
def SzD (D : DefD) : Prop := D.name.size ≤ 140737488351232 ∧ ∀ s, s ∈ D.steps → s.name.size ≤ 140737488351232 ∧ ∀ k, k ∈ s.keys → k.size ≤ 140737488351232
set_option maxHeartbeats 8000000 in
theorem refAlone_any (v : Value) (D : DefD) (hz : SzD D) (i : Nat) (hi : i < D.steps.length) (w : World) (h : DefIn w v D) :
    Calls Tryd.prog 21 #[v, .int .i64 (i : Int)] w fun e w' => e = .returned (.int .i64 (stepFault D.steps i)) ∧ Below w.heap.size w w' := by
  have HDI : Hid (DefIn w v D) := h
  obtain ⟨hz1, hz2⟩ := hz.2 _ (nth_mem hi)
  obtain ⟨sv, rfl, hd⟩ := h
  obtain ⟨ao, cap, rfl, hcap, hn0, hlen, hrow⟩ := hd
  obtain ⟨g, o, rfl, hg, hs⟩ := hrow i hi
  have hb0 : Below w.heap.size w (w.alloc (.cells #[.string D.name, .slice (some ⟨g, o, none⟩) D.steps.length cap] 24)) := (Below.refl _ _).alloc (Nat.le_refl _) _
  obtain ⟨c0, c1, c2, kv, nv, c3, c4, c5, c6⟩ := hs
  obtain ⟨ka, kc, hkv⟩ := c5.slice
  obtain ⟨na, nc, hnv⟩ := c6.slice
  subst hkv hnv
  have HK : Hid (KRow w (.slice ka (nth D.steps i).keys.length kc) (nth D.steps i).keys) := c5
  have HNE : Hid (IRow w (.slice na (nth D.steps i).needs.length nc) (nth D.steps i).needs) := c6
  have hs1 : (w.alloc (.cells #[.string D.name, .slice (some ⟨g, o, none⟩) D.steps.length cap] 24)).heap.size = w.heap.size + 1 := by simp
  have HW : Hid (∀ wq, Below ((w.alloc (.cells #[.string D.name, .slice (some ⟨g, o, none⟩) D.steps.length cap] 24)).alloc (.cells #[.string (nth D.steps i).name, .int .i64 (nth D.steps i).kind, .int .i64 (nth D.steps i).part, .slice ka (nth D.steps i).keys.length kc, .slice na (nth D.steps i).needs.length nc] 44)).heap.size ((w.alloc (.cells #[.string D.name, .slice (some ⟨g, o, none⟩) D.steps.length cap] 24)).alloc (.cells #[.string (nth D.steps i).name, .int .i64 (nth D.steps i).kind, .int .i64 (nth D.steps i).part, .slice ka (nth D.steps i).keys.length kc, .slice na (nth D.steps i).needs.length nc] 44)) wq →
      Below w.heap.size w wq ∧ wq.cell? ⟨w.heap.size, 0, none⟩ = some (.string D.name) ∧ wq.cell? ⟨w.heap.size, 1, none⟩ = some (.slice (some ⟨g, o, none⟩) D.steps.length cap) ∧ wq.cell? ⟨w.heap.size + 1, 0, none⟩ = some (.string (nth D.steps i).name) ∧ wq.cell? ⟨w.heap.size + 1, 1, none⟩ = some (.int .i64 (nth D.steps i).kind) ∧ wq.cell? ⟨w.heap.size + 1, 2, none⟩ = some (.int .i64 (nth D.steps i).part) ∧ wq.cell? ⟨w.heap.size + 1, 3, none⟩ = some (.slice ka (nth D.steps i).keys.length kc) ∧ wq.cell? ⟨w.heap.size + 1, 4, none⟩ = some (.slice na (nth D.steps i).needs.length nc)) := fun wq hb => by
    generalize hw0 : w.alloc (.cells #[.string D.name, .slice (some ⟨g, o, none⟩) D.steps.length cap] 24) = w0 at *
    have h1 : Below w0.heap.size w0 (w0.alloc (.cells #[.string (nth D.steps i).name, .int .i64 (nth D.steps i).kind, .int .i64 (nth D.steps i).part, .slice ka (nth D.steps i).keys.length kc, .slice na (nth D.steps i).needs.length nc] 44)) := (Below.refl _ _).alloc (Nat.le_refl _) _
    have h2 : Below w0.heap.size w0 wq := h1.trans (hb.mono h1.size)
    refine ⟨hb0.trans (h2.mono hb0.size), ?_, ?_, ?_, ?_, ?_, ?_, ?_⟩
    · rw [h2.cell (p := ⟨w.heap.size, 0, none⟩) (by show w.heap.size < _; omega), ← hw0, World.cell?_alloc_new]; rfl
    · rw [h2.cell (p := ⟨w.heap.size, 1, none⟩) (by show w.heap.size < _; omega), ← hw0, World.cell?_alloc_new]; rfl
    all_goals rw [hb.cell (by simp; omega), ← hs1, World.cell?_alloc_new]; rfl
  have HB0 := Below.refl ((w.alloc (.cells #[.string D.name, .slice (some ⟨g, o, none⟩) D.steps.length cap] 24)).alloc (.cells #[.string (nth D.steps i).name, .int .i64 (nth D.steps i).kind, .int .i64 (nth D.steps i).part, .slice ka (nth D.steps i).keys.length kc, .slice na (nth D.steps i).needs.length nc] 44)).heap.size ((w.alloc (.cells #[.string D.name, .slice (some ⟨g, o, none⟩) D.steps.length cap] 24)).alloc (.cells #[.string (nth D.steps i).name, .int .i64 (nth D.steps i).kind, .int .i64 (nth D.steps i).part, .slice ka (nth D.steps i).keys.length kc, .slice na (nth D.steps i).needs.length nc] 44))
  have HF : Hid (stepFault D.steps i = faultR (isN (nth D.steps i).name) (tt (Twice D.steps i)) (nth D.steps i).kind (nth D.steps i).part (tt (KeysOk (nth D.steps i))) (tt (NeedsOk (nth D.steps i).needs i D.steps.length))) := rfl
  have C1 : Hid (∀ wq, Calls Tryd.prog 20 #[.string (nth D.steps i).name] wq fun e w1 => e = .returned (.bool (isN (nth D.steps i).name)) ∧ w1 = wq) := fun wq => refIs_any _ hz1 wq
  have C2 : Hid (∀ wq, Below w.heap.size w wq → Calls Tryd.prog 30 #[.agg #[.string D.name, .slice (some ⟨g, o, none⟩) D.steps.length cap], .int .i64 (i : Int)] wq fun e w1 => e = .returned (.bool (tt (Twice D.steps i))) ∧ Below wq.heap.size wq w1) := fun wq hq => refTwice_any _ D i hi wq (HDI.out.below hq)
  have C3 : Hid (∀ wq, Below w.heap.size w wq → Calls Tryd.prog 31 #[.agg #[.string (nth D.steps i).name, .int .i64 (nth D.steps i).kind, .int .i64 (nth D.steps i).part, .slice ka (nth D.steps i).keys.length kc, .slice na (nth D.steps i).needs.length nc]] wq fun e w1 => e = .returned (.bool (tt (KeysOk (nth D.steps i)))) ∧ Below wq.heap.size wq w1) := fun wq hq => refKeys_any _ _ _ wq (HK.out.below hq) ⟨_, _, _, rfl⟩ hz2
  have C4 : Hid (∀ wq, Below w.heap.size w wq → Calls Tryd.prog 32 #[.slice na (nth D.steps i).needs.length nc, .int .i64 (i : Int), .int .i64 (D.steps.length : Int)] wq fun e w1 => e = .returned (.bool (tt (NeedsOk (nth D.steps i).needs i D.steps.length))) ∧ Below wq.heap.size wq w1) := fun wq hq => refNeeds_any _ _ i D.steps.length wq (HNE.out.below hq) hlen (by omega)
  have hiI : (i : Int) < (D.steps.length : Int) := by omega
  clear hrow c5 c6 hb0 hs1 hz hz1 hz2 HDI HK HNE hn0
  generalize stepFault D.steps i = sf at *
  go_enter Tryd.func21, Tryd.ntmps21
  go_wp2_with fail
  clear c0 c1 c2 c3 c4
  generalize ((w.alloc (.cells #[.string D.name, .slice (some ⟨g, o, none⟩) D.steps.length cap] 24)).alloc (.cells #[.string (nth D.steps i).name, .int .i64 (nth D.steps i).kind, .int .i64 (nth D.steps i).part, .slice ka (nth D.steps i).keys.length kc, .slice na (nth D.steps i).needs.length nc] 44)) = w0 at *
  generalize isN (nth D.steps i).name = b1 at *
  generalize tt (Twice D.steps i) = b2 at *
  generalize tt (KeysOk (nth D.steps i)) = b3 at *
  generalize tt (NeedsOk (nth D.steps i).needs i D.steps.length) = b4 at *
  generalize (nth D.steps i).kind = kd at *
  generalize (nth D.steps i).part = pt at *
  refine (C1.out _).mono ?_
  rintro e w1 ⟨rfl, hw1⟩
  rw [hw1]
  clear hw1 w1 C1
  obtain ⟨k1, p0, p1, u0, u1, u2, u3, u4⟩ := HW.out _ HB0
  have HK1 : Hid (Below w.heap.size w w0) := k1
  clear k1
  go_wp2_with fail
  refine (C2.out _ HK1.out).mono ?_
  rintro e w2 ⟨rfl, hb2⟩
  have HB2 : Hid (Below w0.heap.size w0 w2) := hb2
  clear hb2 p0 p1 u0 u1 u2 u3 u4 C2 HB0
  obtain ⟨k1, p0, p1, u0, u1, u2, u3, u4⟩ := HW.out _ HB2.out
  have HK2 : Hid (Below w.heap.size w w2) := k1
  clear k1
  go_wp2_with fail
  refine (C3.out _ HK2.out).mono ?_
  rintro e w3 ⟨rfl, hb3⟩
  have HB3 : Hid (Below w0.heap.size w0 w3) := HB2.out.trans (hb3.mono HB2.out.size)
  clear hb3 p0 p1 u0 u1 u2 u3 u4 C3
  obtain ⟨k1, p0, p1, u0, u1, u2, u3, u4⟩ := HW.out _ HB3.out
  have HK3 : Hid (Below w.heap.size w w3) := k1
  clear k1
  go_wp2_with fail
  refine (C4.out _ HK3.out).mono ?_
  rintro e w4 ⟨rfl, hb4⟩
  have HB4 : Hid (Below w0.heap.size w0 w4) := HB3.out.trans (hb4.mono HB3.out.size)
  clear hb4 p0 p1 u0 u1 u2 u3 u4 C4
  obtain ⟨k1, p0, p1, u0, u1, u2, u3, u4⟩ := HW.out _ HB4.out
  have HK4 : Hid (Below w.heap.size w w4) := k1
  clear k1 HW
  cases b1 with
  | false =>
    go_wp2_with fail
    go_ret
    exact ⟨by rw [HF.out]; exact ret_int (by unfold faultR; rw [if_pos rfl]), HK4.out⟩
  | true =>
    cases b2 with
    | true =>
      go_wp2_with fail
      go_ret
      exact ⟨by rw [HF.out]; exact ret_int (by unfold faultR; rw [if_neg (by simp), if_pos rfl]), HK4.out⟩
    | false =>
      by_cases h3 : kd < 1
      · go_wp2_with fail
        go_ret
        exact ⟨by rw [HF.out]; exact ret_int (by unfold faultR; rw [if_neg (by simp), if_neg (by simp), if_pos (Or.inl h3)]), HK4.out⟩
      by_cases h4 : 3 < kd
      · go_wp2_with fail
        go_ret
        exact ⟨by rw [HF.out]; exact ret_int (by unfold faultR; rw [if_neg (by simp), if_neg (by simp), if_pos (Or.inr h4)]), HK4.out⟩
      by_cases h5 : pt < 0
      · go_wp2_with fail
        go_ret
        exact ⟨by rw [HF.out]; exact ret_int (by unfold faultR; rw [if_neg (by simp), if_neg (by simp), if_neg (by omega), if_pos (Or.inl h5)]), HK4.out⟩
      by_cases h6 : 3 < pt
      · go_wp2_with fail
        go_ret
        exact ⟨by rw [HF.out]; exact ret_int (by unfold faultR; rw [if_neg (by simp), if_neg (by simp), if_neg (by omega), if_pos (Or.inr (by omega))]), HK4.out⟩
      cases b3 with
      | false =>
        go_wp2_with fail
        go_ret
        exact ⟨by rw [HF.out]; exact ret_int (by unfold faultR; rw [if_neg (by simp), if_neg (by simp), if_neg (by omega), if_neg (by omega), if_pos rfl]), HK4.out⟩
      | true =>
        cases b4 with
        | false =>
          go_wp2_with fail
          go_ret
          exact ⟨by rw [HF.out]; exact ret_int (by unfold faultR; rw [if_neg (by simp), if_neg (by simp), if_neg (by omega), if_neg (by omega), if_neg (by simp), if_pos rfl]), HK4.out⟩
        | true =>
          go_wp2_with fail
          go_ret
          exact ⟨by rw [HF.out]; exact ret_int (by unfold faultR; rw [if_neg (by simp), if_neg (by simp), if_neg (by omega), if_neg (by omega), if_neg (by simp), if_neg (by simp)]), HK4.out⟩
end Go.Proofs.YtaeakednekbekaaDoor
