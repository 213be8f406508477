/- The walks of first, faultAmong, faultOf and Check, in package check. -/
import Derived.Test.YtaeakednekbekaaDoorAheadW
import Derived.Test.YtaeakednekbekaaDoorRulesW
import Derived.Test.YtaeakednekbekaaDoorKeyW
import Derived.Test.YtaeakednekbekaaDoorRingW
set_option linter.unusedVariables false
set_option maxRecDepth 100000
namespace Go.Proofs.YtaeakednekbekaaDoor
open Go.RowKit CheckMath
open Go.Proofs.YtaeakednekbekaaDoor.Nm

set_option maxHeartbeats 2000000 in
theorem first_any (f : Nat) (hf : f = 49 ∨ f = 50 ∨ f = 51 ∨ f = 52) (P : Nat → Prop) (v : Value) (ss : List StepD) (w : World) (h : DRow w v ss)
    (hc : ∀ (i : Nat) (wq : World), i < ss.length → DRow wq v ss → Calls Tryd.prog f #[v, .int .i64 (i : Int)] wq fun e w' => e = .returned (.bool (tt (P i))) ∧ Below wq.heap.size wq w') :
    Calls Tryd.prog 48 #[v, .func (.func f) #[] #[]] w fun e w' => e = .returned (.int .i64 (firstI P ss.length)) ∧ Below w.heap.size w w' := by
  have HD : Hid (DRow w v ss) := h
  have HC : Hid (∀ (i : Nat) (wq : World), i < ss.length → DRow wq v ss → Calls Tryd.prog f #[v, .int .i64 (i : Int)] wq fun e w' => e = .returned (.bool (tt (P i))) ∧ Below wq.heap.size wq w') := hc
  obtain ⟨ao, cap, rfl, hcap, hn0, hlen, hrow⟩ := h
  clear hrow hn0 hc
  rcases hf with rfl | rfl | rfl | rfl
  all_goals (
    go_enter Tryd.func48, Tryd.ntmps48
    go_wp2
    go_loopw [5, 8] (fun _ i wr => ∃ k : Nat, k ≤ ss.length ∧ i = .int .i64 (k : Int) ∧ Hid (Below w.heap.size w wr) ∧ Hid (firstI P ss.length = firstF P k (ss.length - k))) (fun _ i _ => ss.length - (intOf i).toNat)
    case atStart => exact ⟨0, Nat.zero_le _, rfl, Below.refl _ _, rfl⟩
    case round =>
      obtain ⟨k, hk, rfl, HB, HN⟩ := hrel
      by_cases hlt : k < ss.length
      · have C : Hid (Calls Tryd.prog _ #[.slice ao ss.length cap, .int .i64 (k : Int)] wr fun e w' => e = .returned (.bool (tt (P k))) ∧ Below wr.heap.size wr w') := HC.out k wr hlt (HD.out.below HB.out)
        rw [show ss.length - k = (ss.length - (k + 1)) + 1 by omega, firstF] at HN
        by_cases hq : P k
        · rw [tt_yes hq] at C HN
          simp only [if_true] at HN
          clear hq
          go_wp2_with fail
          refine C.out.mono ?_
          rintro e w1 ⟨rfl, hb1⟩
          have HB1 : Hid (Below w.heap.size w w1) := HB.out.trans (hb1.mono HB.out.size)
          clear C hb1 HB
          go_wp2
          go_ret
          rw [HN.out]
          exact ⟨rfl, HB1.out⟩
        · rw [tt_no hq] at C HN
          simp only [Bool.false_eq_true, if_false] at HN
          clear hq
          go_wp2_with fail
          refine C.out.mono ?_
          rintro e w1 ⟨rfl, hb1⟩
          have HB1 : Hid (Below w.heap.size w w1) := HB.out.trans (hb1.mono HB.out.size)
          clear C hb1 HB
          go_wp2
          exact ⟨⟨k + 1, by omega, by go_num, HB1, HN⟩, by simp [intOf]; omega⟩
      · obtain rfl : k = ss.length := by omega
        have HE : Hid (firstI P ss.length = -1) := by rw [HN.out, Nat.sub_self]; rfl
        clear HN
        go_wp2
        go_ret
        rw [HE.out]
        exact ⟨rfl, HB.out⟩)

set_option maxHeartbeats 4000000 in
theorem faultAmong_any (v : Value) (ss : List StepD) (h8 : ss.length ≤ 8) (hN : Needy ss) (w : World) (h : DRow w v ss) :
    Calls Tryd.prog 38 #[v] w fun e w' => e = .returned (.tuple #[.int .i64 (amongM ss).1, .int .i64 (amongM ss).2]) ∧ Below w.heap.size w w' := by
  have C1 : Hid (∀ wq, Below w.heap.size w wq → Calls Tryd.prog 48 #[v, .func (.func 49) #[] #[]] wq fun e w' => e = .returned (.int .i64 (firstI (PivotAgain ss) ss.length)) ∧ Below w.heap.size w w') := fun wq hq =>
    (first_any _ (by simp) _ v ss wq (h.below hq) (fun i w1 hi hd => pivotAgain_any v ss i hi w1 hd)).mono (fun e w' ⟨he, hb⟩ => ⟨he, hq.trans (hb.mono hq.size)⟩)
  have C2 : Hid (∀ wq, Below w.heap.size w wq → Calls Tryd.prog 48 #[v, .func (.func 50) #[] #[]] wq fun e w' => e = .returned (.int .i64 (firstI (OutOfOrder ss) ss.length)) ∧ Below w.heap.size w w') := fun wq hq =>
    (first_any _ (by simp) _ v ss wq (h.below hq) (fun i w1 hi hd => outOfOrder_any v ss hN i hi w1 hd)).mono (fun e w' ⟨he, hb⟩ => ⟨he, hq.trans (hb.mono hq.size)⟩)
  have C3 : Hid (∀ wq, Below w.heap.size w wq → Calls Tryd.prog 48 #[v, .func (.func 51) #[] #[]] wq fun e w' => e = .returned (.int .i64 (firstI (Ring ss) ss.length)) ∧ Below w.heap.size w w') := fun wq hq =>
    (first_any _ (by simp) _ v ss wq (h.below hq) (fun i w1 hi hd => inRing_any v ss h8 hN i hi w1 hd)).mono (fun e w' ⟨he, hb⟩ => ⟨he, hq.trans (hb.mono hq.size)⟩)
  have C4 : Hid (∀ wq, Below w.heap.size w wq → Calls Tryd.prog 48 #[v, .func (.func 52) #[] #[]] wq fun e w' => e = .returned (.int .i64 (firstI (KeyUntaken ss) ss.length)) ∧ Below w.heap.size w w') := fun wq hq =>
    (first_any _ (by simp) _ v ss wq (h.below hq) (fun i w1 hi hd => keyUntaken_any v ss i hi w1 hd)).mono (fun e w' ⟨he, hb⟩ => ⟨he, hq.trans (hb.mono hq.size)⟩)
  obtain ⟨ao, cap, rfl, _⟩ := h.slice
  unfold amongM
  clear h hN
  generalize firstI (PivotAgain ss) ss.length = r1 at *
  generalize firstI (OutOfOrder ss) ss.length = r2 at *
  generalize firstI (Ring ss) ss.length = r3 at *
  generalize firstI (KeyUntaken ss) ss.length = r4 at *
  by_cases h1 : r1 = -1
  case neg =>
    rw [if_pos h1]
    have h1' : (r1 != (-1 : Int)) = true := by simpa using h1
    clear h1
    go_enter Tryd.func38, Tryd.ntmps38
    go_wp2_with fail
    refine (C1.out _ (Below.refl _ _)).mono ?_
    rintro e w1 ⟨rfl, hb1⟩
    go_wp2_with fail
    go_ret2
    exact ⟨rfl, hb1⟩
  rw [if_neg (by simpa using h1)]
  have h1' : (r1 != (-1 : Int)) = false := by simpa using h1
  clear h1
  by_cases h2 : r2 = -1
  case neg =>
    rw [if_pos h2]
    have h2' : (r2 != (-1 : Int)) = true := by simpa using h2
    clear h2
    go_enter Tryd.func38, Tryd.ntmps38
    go_wp2_with fail
    refine (C1.out _ (Below.refl _ _)).mono ?_
    rintro e w1 ⟨rfl, hb1⟩
    go_wp2_with fail
    refine (C2.out _ hb1).mono ?_
    rintro e w2 ⟨rfl, hb2⟩
    go_wp2_with fail
    go_ret2
    exact ⟨rfl, hb2⟩
  rw [if_neg (by simpa using h2)]
  have h2' : (r2 != (-1 : Int)) = false := by simpa using h2
  clear h2
  by_cases h3 : r3 = -1
  case neg =>
    rw [if_pos h3]
    have h3' : (r3 != (-1 : Int)) = true := by simpa using h3
    clear h3
    go_enter Tryd.func38, Tryd.ntmps38
    go_wp2_with fail
    refine (C1.out _ (Below.refl _ _)).mono ?_
    rintro e w1 ⟨rfl, hb1⟩
    go_wp2_with fail
    refine (C2.out _ hb1).mono ?_
    rintro e w2 ⟨rfl, hb2⟩
    go_wp2_with fail
    refine (C3.out _ hb2).mono ?_
    rintro e w3 ⟨rfl, hb3⟩
    go_wp2_with fail
    go_ret2
    exact ⟨rfl, hb3⟩
  rw [if_neg (by simpa using h3)]
  have h3' : (r3 != (-1 : Int)) = false := by simpa using h3
  clear h3
  by_cases h4 : r4 = -1
  case neg =>
    rw [if_pos h4]
    have h4' : (r4 != (-1 : Int)) = true := by simpa using h4
    clear h4
    go_enter Tryd.func38, Tryd.ntmps38
    go_wp2_with fail
    refine (C1.out _ (Below.refl _ _)).mono ?_
    rintro e w1 ⟨rfl, hb1⟩
    go_wp2_with fail
    refine (C2.out _ hb1).mono ?_
    rintro e w2 ⟨rfl, hb2⟩
    go_wp2_with fail
    refine (C3.out _ hb2).mono ?_
    rintro e w3 ⟨rfl, hb3⟩
    go_wp2_with fail
    refine (C4.out _ hb3).mono ?_
    rintro e w4 ⟨rfl, hb4⟩
    go_wp2_with fail
    go_ret2
    exact ⟨rfl, hb4⟩
  rw [if_neg (by simpa using h4)]
  have h4' : (r4 != (-1 : Int)) = false := by simpa using h4
  clear h4
  go_enter Tryd.func38, Tryd.ntmps38
  go_wp2_with fail
  refine (C1.out _ (Below.refl _ _)).mono ?_
  rintro e w1 ⟨rfl, hb1⟩
  go_wp2_with fail
  refine (C2.out _ hb1).mono ?_
  rintro e w2 ⟨rfl, hb2⟩
  go_wp2_with fail
  refine (C3.out _ hb2).mono ?_
  rintro e w3 ⟨rfl, hb3⟩
  go_wp2_with fail
  refine (C4.out _ hb3).mono ?_
  rintro e w4 ⟨rfl, hb4⟩
  go_wp2_with fail
  go_ret2
  exact ⟨rfl, hb4⟩

def faultM (b1 b2 : Bool) (kd pt : Int) (b3 b4 : Bool) : Int := if b1 = false then 110 else if b2 = true then 112 else if kd < 1 ∨ kd > 3 then 113 else if pt < 0 ∨ pt ≥ 4 then 114 else if b3 = false then 115 else if b4 = false then 116 else 0
noncomputable def topM (b : Bool) (ss : List StepD) : Int × Int := if b = false then (-1, 110) else if ss.length = 0 ∨ 8 < ss.length then (-1, 111) else stepsF ss 0 ss.length
set_option maxHeartbeats 8000000 in
theorem faultOf_any (v : Value) (ss : List StepD) (i : Nat) (hi : i < ss.length) (w : World) (h : DRow w v ss) (hT : Tabs w) :
    Calls Tryd.prog 37 #[v, .int .i64 (i : Int)] w fun e w' => e = .returned (.int .i64 (stepFault ss i)) ∧ Below w.heap.size w w' := by
  have HD : Hid (DRow w v ss) := h
  have HT : Hid (Tabs w) := hT
  obtain ⟨ao, cap, rfl, hcap, _, hlen, hrow⟩ := h
  obtain ⟨g, o, rfl, hg, c0, c1, c2, kv, nv, c3, c4, c5, c6⟩ := hrow i hi
  obtain ⟨ka, kc, hkv⟩ := c5.slice
  obtain ⟨na, nc, hnv⟩ := c6.slice
  subst hkv hnv
  have HK : Hid (KRow w (.slice ka (nth ss i).keys.length kc) (nth ss i).keys) := c5
  have HNE : Hid (IRow w (.slice na (nth ss i).needs.length nc) (nth ss i).needs) := c6
  clear hrow c5 c6 hT
  have HW : Hid (∀ wq, Below (w.alloc (.cells #[.string (nth ss i).name, .int .i64 (nth ss i).kind, .int .i64 (nth ss i).part, .slice ka (nth ss i).keys.length kc, .slice na (nth ss i).needs.length nc] 44)).heap.size (w.alloc (.cells #[.string (nth ss i).name, .int .i64 (nth ss i).kind, .int .i64 (nth ss i).part, .slice ka (nth ss i).keys.length kc, .slice na (nth ss i).needs.length nc] 44)) wq →
      Below w.heap.size w wq ∧ wq.cell? ⟨w.heap.size, 0, none⟩ = some (.string (nth ss i).name) ∧ wq.cell? ⟨w.heap.size, 1, none⟩ = some (.int .i64 (nth ss i).kind) ∧ wq.cell? ⟨w.heap.size, 2, none⟩ = some (.int .i64 (nth ss i).part) ∧ wq.cell? ⟨w.heap.size, 3, none⟩ = some (.slice ka (nth ss i).keys.length kc) ∧ wq.cell? ⟨w.heap.size, 4, none⟩ = some (.slice na (nth ss i).needs.length nc)) := fun wq hb => by
    have h1 : Below w.heap.size w (w.alloc (.cells #[.string (nth ss i).name, .int .i64 (nth ss i).kind, .int .i64 (nth ss i).part, .slice ka (nth ss i).keys.length kc, .slice na (nth ss i).needs.length nc] 44)) := (Below.refl _ _).alloc (Nat.le_refl _) _
    refine ⟨h1.trans (hb.mono h1.size), ?_, ?_, ?_, ?_, ?_⟩
    · rw [hb.cell (p := ⟨w.heap.size, 0, none⟩) (by simp), World.cell?_alloc_new]; rfl
    · rw [hb.cell (p := ⟨w.heap.size, 1, none⟩) (by simp), World.cell?_alloc_new]; rfl
    · rw [hb.cell (p := ⟨w.heap.size, 2, none⟩) (by simp), World.cell?_alloc_new]; rfl
    · rw [hb.cell (p := ⟨w.heap.size, 3, none⟩) (by simp), World.cell?_alloc_new]; rfl
    · rw [hb.cell (p := ⟨w.heap.size, 4, none⟩) (by simp), World.cell?_alloc_new]; rfl
  have HF : Hid (stepFault ss i = faultM (isN (nth ss i).name) (tt (Twice ss i)) (nth ss i).kind (nth ss i).part (tt (KeysOk (nth ss i))) (tt (NeedsOk (nth ss i).needs i ss.length))) := rfl
  generalize stepFault ss i = sf at *
  go_enter Tryd.func37, Tryd.ntmps37
  go_wp2_with fail
  clear c0 c1 c2 c3 c4
  have C1 : Hid (∀ wq, Calls Tryd.prog 36 #[.string (nth ss i).name] wq fun e w1 => e = .returned (.bool (isN (nth ss i).name)) ∧ Below wq.heap.size wq w1) := fun wq => is_any _ wq
  have C2 : Hid (∀ wq, Below w.heap.size w wq → Calls Tryd.prog 45 #[.slice (some ⟨g, o, none⟩) ss.length cap, .int .i64 (i : Int)] wq fun e w1 => e = .returned (.bool (tt (Twice ss i))) ∧ Below wq.heap.size wq w1) := fun wq hq => nameAhead_any _ ss i hi wq (HD.out.below hq)
  have C3 : Hid (∀ wq, Below w.heap.size w wq → Calls Tryd.prog 46 #[.agg #[.string (nth ss i).name, .int .i64 (nth ss i).kind, .int .i64 (nth ss i).part, .slice ka (nth ss i).keys.length kc, .slice na (nth ss i).needs.length nc]] wq fun e w1 => e = .returned (.bool (tt (KeysOk (nth ss i)))) ∧ Below wq.heap.size wq w1) := fun wq hq => keysMayBe_any _ _ _ wq (HK.out.below hq) ⟨_, _, _, rfl⟩ (Utf8Tabs_below HT.out hq)
  have C4 : Hid (∀ wq, Below w.heap.size w wq → Calls Tryd.prog 47 #[.slice na (nth ss i).needs.length nc, .int .i64 (i : Int), .int .i64 (ss.length : Int)] wq fun e w1 => e = .returned (.bool (tt (NeedsOk (nth ss i).needs i ss.length))) ∧ Below wq.heap.size wq w1) := fun wq hq => needsMayBe_any _ _ i ss.length wq (HNE.out.below hq) hlen (by omega)
  clear HD HT HK HNE
  have HB0 := Below.refl (w.alloc (.cells #[.string (nth ss i).name, .int .i64 (nth ss i).kind, .int .i64 (nth ss i).part, .slice ka (nth ss i).keys.length kc, .slice na (nth ss i).needs.length nc] 44)).heap.size (w.alloc (.cells #[.string (nth ss i).name, .int .i64 (nth ss i).kind, .int .i64 (nth ss i).part, .slice ka (nth ss i).keys.length kc, .slice na (nth ss i).needs.length nc] 44))
  generalize (w.alloc (.cells #[.string (nth ss i).name, .int .i64 (nth ss i).kind, .int .i64 (nth ss i).part, .slice ka (nth ss i).keys.length kc, .slice na (nth ss i).needs.length nc] 44)) = w0 at *
  generalize isN (nth ss i).name = b1 at *
  generalize tt (Twice ss i) = b2 at *
  generalize tt (KeysOk (nth ss i)) = b3 at *
  generalize tt (NeedsOk (nth ss i).needs i ss.length) = b4 at *
  generalize (nth ss i).kind = kd at *
  generalize (nth ss i).part = pt at *
  refine (C1.out _).mono ?_
  rintro e w1 ⟨rfl, hb1⟩
  have HB1 : Hid (Below w0.heap.size w0 w1) := hb1
  clear HB0 hb1
  obtain ⟨k1, p0, p1, p2, p3, p4⟩ := HW.out _ HB1.out
  have HK1 : Hid (Below w.heap.size w w1) := k1
  clear k1
  cases b1 with
  | false =>
    go_wp2_with fail
    go_ret
    exact ⟨by rw [HF.out]; exact ret_int (by unfold faultM; rw [if_pos rfl]), HK1.out⟩
  | true =>
    go_wp2_with fail
    refine (C2.out _ HK1.out).mono ?_
    rintro e w2 ⟨rfl, hb2⟩
    have HB2 : Hid (Below w0.heap.size w0 w2) := HB1.out.trans (hb2.mono HB1.out.size)
    clear hb2 p0 p1 p2 p3 p4
    obtain ⟨k2, p0, p1, p2, p3, p4⟩ := HW.out _ HB2.out
    have HK2 : Hid (Below w.heap.size w w2) := k2
    clear k2
    cases b2 with
    | true =>
      go_wp2_with fail
      go_ret
      exact ⟨by rw [HF.out]; exact ret_int (by unfold faultM; rw [if_neg (by simp), if_pos rfl]), HK2.out⟩
    | false =>
      by_cases h3 : kd < 1
      · go_wp2_with fail
        go_ret
        exact ⟨by rw [HF.out]; exact ret_int (by unfold faultM; rw [if_neg (by simp), if_neg (by simp), if_pos (Or.inl h3)]), HK2.out⟩
      by_cases h4 : 3 < kd
      · go_wp2_with fail
        go_ret
        exact ⟨by rw [HF.out]; exact ret_int (by unfold faultM; rw [if_neg (by simp), if_neg (by simp), if_pos (Or.inr h4)]), HK2.out⟩
      by_cases h5 : pt < 0
      · go_wp2_with fail
        go_ret
        exact ⟨by rw [HF.out]; exact ret_int (by unfold faultM; rw [if_neg (by simp), if_neg (by simp), if_neg (by omega), if_pos (Or.inl h5)]), HK2.out⟩
      by_cases h6 : 4 ≤ pt
      · go_wp2_with fail
        go_ret
        exact ⟨by rw [HF.out]; exact ret_int (by unfold faultM; rw [if_neg (by simp), if_neg (by simp), if_neg (by omega), if_pos (Or.inr h6)]), HK2.out⟩
      go_wp2_with fail
      refine (C3.out _ HK2.out).mono ?_
      rintro e w3 ⟨rfl, hb3⟩
      have HB3 : Hid (Below w0.heap.size w0 w3) := HB2.out.trans (hb3.mono HB2.out.size)
      clear hb3 p0 p1 p2 p3 p4
      obtain ⟨k3, p0, p1, p2, p3, p4⟩ := HW.out _ HB3.out
      have HK3 : Hid (Below w.heap.size w w3) := k3
      clear k3
      cases b3 with
      | false =>
        go_wp2_with fail
        go_ret
        exact ⟨by rw [HF.out]; exact ret_int (by unfold faultM; rw [if_neg (by simp), if_neg (by simp), if_neg (by omega), if_neg (by omega), if_pos rfl]), HK3.out⟩
      | true =>
        go_wp2_with fail
        refine (C4.out _ HK3.out).mono ?_
        rintro e w4 ⟨rfl, hb4⟩
        have HK4 : Hid (Below w.heap.size w w4) := HK3.out.trans (hb4.mono HK3.out.size)
        clear hb4 p0 p1 p2 p3 p4
        cases b4 with
        | false =>
          go_wp2_with fail
          go_ret
          exact ⟨by rw [HF.out]; exact ret_int (by unfold faultM; rw [if_neg (by simp), if_neg (by simp), if_neg (by omega), if_neg (by omega), if_neg (by simp), if_pos rfl]), HK4.out⟩
        | true =>
          go_wp2_with fail
          go_ret
          exact ⟨by rw [HF.out]; exact ret_int (by unfold faultM; rw [if_neg (by simp), if_neg (by simp), if_neg (by omega), if_neg (by omega), if_neg (by simp), if_neg (by simp)]), HK4.out⟩

theorem stepsF_stop {ss : List StepD} {k n : Nat} (h : ¬ stepFault ss k = 0) : stepsF ss k (n + 1) = ((k : Int), stepFault ss k) := by rw [stepsF, if_neg h]
theorem stepsF_go {ss : List StepD} {k n : Nat} (h : stepFault ss k = 0) : stepsF ss k (n + 1) = stepsF ss (k + 1) n := by rw [stepsF, if_pos h]
set_option maxHeartbeats 4000000 in
theorem check_any (v : Value) (D : DefD) (w : World) (h : DefIn w v D) (hT : Tabs w) :
    Calls Tryd.prog 23 #[v] w fun e w' => e = .returned (.tuple #[.int .i64 (checkM D).1, .int .i64 (checkM D).2]) ∧ Below w.heap.size w w' := by
  obtain ⟨sv, rfl, hd⟩ := h
  have HD : Hid (DRow w sv D.steps) := hd
  have HT : Hid (Tabs w) := hT
  obtain ⟨ao, cap, rfl, hcap, _, hlen, _⟩ := hd
  have HW : Hid (∀ wq, Below (w.alloc (.cells #[.string D.name, .slice ao D.steps.length cap] 24)).heap.size (w.alloc (.cells #[.string D.name, .slice ao D.steps.length cap] 24)) wq →
      Below w.heap.size w wq ∧ wq.cell? ⟨w.heap.size, 1, none⟩ = some (.slice ao D.steps.length cap)) := fun wq hb => by
    have h1 : Below w.heap.size w (w.alloc (.cells #[.string D.name, .slice ao D.steps.length cap] 24)) := (Below.refl _ _).alloc (Nat.le_refl _) _
    refine ⟨h1.trans (hb.mono h1.size), ?_⟩
    rw [hb.cell (p := ⟨w.heap.size, 1, none⟩) (by simp), World.cell?_alloc_new]; rfl
  have C1 : Hid (∀ wq, Calls Tryd.prog 36 #[.string D.name] wq fun e w1 => e = .returned (.bool (isN D.name)) ∧ Below wq.heap.size wq w1) := fun wq => is_any _ wq
  have HM : Hid (checkM D = topM (isN D.name) D.steps) := rfl
  clear hT
  generalize checkM D = cm at *
  generalize hm1 : cm.1 = m1
  generalize hm2 : cm.2 = m2
  have HM1 : Hid (cm.1 = m1) := hm1
  have HM2 : Hid (cm.2 = m2) := hm2
  clear hm1 hm2
  have HB0 := Below.refl (w.alloc (.cells #[.string D.name, .slice ao D.steps.length cap] 24)).heap.size (w.alloc (.cells #[.string D.name, .slice ao D.steps.length cap] 24))
  go_enter Tryd.func23, Tryd.ntmps23
  go_wp2_with fail
  generalize (w.alloc (.cells #[.string D.name, .slice ao D.steps.length cap] 24)) = w0 at *
  refine (C1.out _).mono ?_
  rintro e w1 ⟨rfl, hb1⟩
  have HB1 : Hid (Below w0.heap.size w0 w1) := hb1
  clear HB0 hb1
  obtain ⟨k1, p1⟩ := HW.out _ HB1.out
  have HK1 : Hid (Below w.heap.size w w1) := k1
  clear k1 C1
  generalize isN D.name = b1 at *
  cases b1 with
  | false =>
    go_wp2_with fail
    go_ret2
    refine ⟨?_, HK1.out⟩
    rw [← HM1.out, ← HM2.out, HM.out, show topM false D.steps = (-1, 110) by unfold topM; rw [if_pos rfl]]
    rfl
  | true =>
    by_cases h0 : D.steps.length = 0
    · have h0' : ((D.steps.length : Int) == 0) = true := by simp [h0]
      have HZ : Hid (D.steps.length = 0 ∨ 8 < D.steps.length) := Or.inl h0
      clear h0
      go_wp2_with fail
      go_ret2
      refine ⟨?_, HK1.out⟩
      rw [← HM1.out, ← HM2.out, HM.out, show topM true D.steps = (-1, 111) by unfold topM; rw [if_neg (by simp), if_pos HZ.out]]
      rfl
    have h0' : ((D.steps.length : Int) == 0) = false := beq_eq_false_iff_ne.2 (by omega)
    by_cases h8 : 8 < D.steps.length
    · have h8' : (8 : Int) < (D.steps.length : Int) := by omega
      go_wp2_with fail
      go_ret2
      refine ⟨?_, HK1.out⟩
      rw [← HM1.out, ← HM2.out, HM.out, show topM true D.steps = (-1, 111) by unfold topM; rw [if_neg (by simp), if_pos (Or.inr h8)]]
      rfl
    have h8' : ¬ (8 : Int) < (D.steps.length : Int) := by omega
    have HMM : Hid (cm = stepsF D.steps 0 D.steps.length) := by show cm = _; rw [HM.out]; unfold topM; rw [if_neg (by simp), if_neg (by omega)]
    clear HM h0
    go_wp2_with fail
    clear p1
    go_loopw [4, 5, 23] (fun _ _ k wr => ∃ n : Nat, n ≤ D.steps.length ∧ k = .int .i64 (n : Int) ∧ Hid (Below w0.heap.size w0 wr) ∧ Hid (∀ j, j < n → stepFault D.steps j = 0) ∧ Hid (cm = stepsF D.steps n (D.steps.length - n))) (fun _ _ k _ => D.steps.length - (intOf k).toNat)
    case atStart => exact ⟨0, Nat.zero_le _, rfl, HB1, fun j hj => absurd hj (Nat.not_lt_zero _), HMM⟩
    case round =>
      obtain ⟨n, hn, rfl, HB, HN, HF⟩ := hrel
      obtain ⟨k2, p1⟩ := HW.out _ HB.out
      have HK2 : Hid (Below w.heap.size w wr) := k2
      clear k2
      by_cases hlt : n < D.steps.length
      · have C : Hid (Calls Tryd.prog 37 #[.slice ao D.steps.length cap, .int .i64 (n : Int)] wr fun e w' => e = .returned (.int .i64 (stepFault D.steps n)) ∧ Below wr.heap.size wr w') := faultOf_any _ _ n hlt wr (HD.out.below HK2.out) (Utf8Tabs_below HT.out HK2.out)
        rw [show D.steps.length - n = (D.steps.length - (n + 1)) + 1 by omega] at HF
        by_cases hq : stepFault D.steps n = 0
        · rw [stepsF_go hq] at HF
          have HN2 : Hid (∀ j, j < n + 1 → stepFault D.steps j = 0) := fun j hj => by
            by_cases e : j = n
            · subst e; exact hq
            · exact HN.out j (by omega)
          rw [hq] at C
          clear hq HN
          go_wp2_with fail
          refine C.out.mono ?_
          rintro e w2 ⟨rfl, hb2⟩
          have HB2 : Hid (Below w0.heap.size w0 w2) := HB.out.trans (hb2.mono HB.out.size)
          clear C hb2 HB p1
          go_wp2
          exact ⟨⟨n + 1, by omega, by go_num, HB2, HN2, HF⟩, by simp [intOf]; omega⟩
        · rw [stepsF_stop hq] at HF
          have hq' : (stepFault D.steps n != (0 : Int)) = true := by simpa using hq
          clear hq HN
          generalize stepFault D.steps n = sf at *
          go_wp2_with fail
          refine C.out.mono ?_
          rintro e w2 ⟨rfl, hb2⟩
          have HB2 : Hid (Below w.heap.size w w2) := HK2.out.trans (hb2.mono HK2.out.size)
          clear C hb2 HB p1
          go_wp2
          go_ret2
          refine ⟨?_, HB2.out⟩
          rw [← HM1.out, ← HM2.out, HF.out]
          rfl
      · obtain rfl : n = D.steps.length := by omega
        have C : Hid (Calls Tryd.prog 38 #[.slice ao D.steps.length cap] wr fun e w' => e = .returned (.tuple #[.int .i64 (amongM D.steps).1, .int .i64 (amongM D.steps).2]) ∧ Below wr.heap.size wr w') := faultAmong_any _ _ (by omega) (needy_of HN.out) wr (HD.out.below HK2.out)
        rw [Nat.sub_self] at HF
        have HF2 : Hid (cm = amongM D.steps) := HF.out
        clear HN HF
        generalize amongM D.steps = am at *
        go_wp2_with fail
        refine C.out.mono ?_
        rintro e w2 ⟨rfl, hb2⟩
        have HB2 : Hid (Below w.heap.size w w2) := HK2.out.trans (hb2.mono HK2.out.size)
        clear C hb2 HB p1
        go_wp2
        go_ret2
        refine ⟨?_, HB2.out⟩
        rw [← HM1.out, ← HM2.out, HF2.out]
        rfl
end Go.Proofs.YtaeakednekbekaaDoor
