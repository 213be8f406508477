/- The walks of the rules pivotAgain, outOfOrder and keyUntaken, and of what they call, in package check. -/
import Derived.Test.YtaeakednekbekaaDoorCBase
set_option linter.unusedVariables false
set_option maxRecDepth 100000
namespace Go.Proofs.YtaeakednekbekaaDoor
open Go.RowKit CheckMath
open Go.Proofs.YtaeakednekbekaaDoor.Nm

theorem isPivot_any (s : StepD) (kv nv : Value) (hk : ∃ a n c, kv = .slice a n c) (hn : ∃ a n c, nv = .slice a n c) (w : World) :
    Calls Tryd.prog 57 #[.agg #[.string s.name, .int .i64 s.kind, .int .i64 s.part, kv, nv]] w fun e w' => e = .returned (.bool (tt (s.kind = 2))) ∧ Below w.heap.size w w' := by
  obtain ⟨ka, kn, kc, rfl⟩ := hk
  obtain ⟨na, nn, nc, rfl⟩ := hn
  by_cases h : s.kind = 2
  · have HE : Hid (tt (s.kind = 2) = true) := tt_yes h
    have h' : (s.kind == (2 : Int)) = true := by simpa using h
    clear h
    go_enter Tryd.func57, Tryd.ntmps57
    go_wp2
    go_ret
    rw [HE.out]
    exact ⟨rfl, (Below.refl _ _).alloc (Nat.le_refl _) _⟩
  · have HE : Hid (tt (s.kind = 2) = false) := tt_no h
    have h' : (s.kind == (2 : Int)) = false := by simpa using h
    clear h
    go_enter Tryd.func57, Tryd.ntmps57
    go_wp2
    go_ret
    rw [HE.out]
    exact ⟨rfl, (Below.refl _ _).alloc (Nat.le_refl _) _⟩

set_option maxHeartbeats 2000000 in
theorem indexP_any (v : Value) (ss : List StepD) (w : World) (h : DRow w v ss) :
    Calls Tryd.prog 61 #[v, .func (.func 57) #[] #[]] w fun e w' => e = .returned (.int .i64 (firstI (fun k => (nth ss k).kind = 2) ss.length)) ∧ Below w.heap.size w w' := by
  obtain ⟨ao, cap, rfl, hcap, hn0, hlen, hrow⟩ := h
  have HR : Hid (∀ j, j < ss.length → ∃ g o, ao = some ⟨g, o, none⟩ ∧ g < w.heap.size ∧ StepIn w g (o + j * 5) (nth ss j)) := hrow
  clear hrow hn0
  go_enter Tryd.func61, Tryd.ntmps61
  go_wp2
  go_loopw [5, 8] (fun _ i wr => ∃ k : Nat, k ≤ ss.length ∧ i = .int .i64 (k : Int) ∧ Hid (Below w.heap.size w wr) ∧ Hid (firstI (fun k => (nth ss k).kind = 2) ss.length = firstF (fun k => (nth ss k).kind = 2) k (ss.length - k))) (fun _ i _ => ss.length - (intOf i).toNat)
  case atStart => exact ⟨0, Nat.zero_le _, rfl, Below.refl _ _, rfl⟩
  case round =>
    obtain ⟨k, hk, rfl, HB, HN⟩ := hrel
    by_cases hlt : k < ss.length
    · obtain ⟨g, o, rfl, hg, hs⟩ := HR.out k hlt
      obtain ⟨c0, c1, c2, kv, nv, c3, c4, c5, c6⟩ := hs.below hg HB.out
      obtain ⟨ka, kc, rfl⟩ := c5.slice
      obtain ⟨na, nc, rfl⟩ := c6.slice
      have C : Hid (Calls Tryd.prog 57 #[.agg #[.string (nth ss k).name, .int .i64 (nth ss k).kind, .int .i64 (nth ss k).part, .slice ka (nth ss k).keys.length kc, .slice na (nth ss k).needs.length nc]] wr fun e w' => e = .returned (.bool (tt ((nth ss k).kind = 2))) ∧ Below wr.heap.size wr w') := isPivot_any (nth ss k) _ _ ⟨_, _, _, rfl⟩ ⟨_, _, _, rfl⟩ wr
      rw [show ss.length - k = (ss.length - (k + 1)) + 1 by omega, firstF] at HN
      clear hs c5 c6 HR
      by_cases hq : (nth ss k).kind = 2
      · rw [tt_yes hq] at C HN
        simp only [if_true] at HN
        clear hq
        generalize (nth ss k).kind = sk at *
        go_wp2_with fail
        refine C.out.mono ?_
        rintro e w1 ⟨rfl, hb1⟩
        have HB1 : Hid (Below w.heap.size w w1) := HB.out.trans (hb1.mono HB.out.size)
        clear C hb1 HB c0 c1 c2 c3 c4
        go_wp2
        go_ret
        rw [HN.out]
        exact ⟨rfl, HB1.out⟩
      · rw [tt_no hq] at C HN
        simp only [Bool.false_eq_true, if_false] at HN
        clear hq
        generalize (nth ss k).kind = sk at c1 C
        go_wp2_with fail
        refine C.out.mono ?_
        rintro e w1 ⟨rfl, hb1⟩
        have HB1 : Hid (Below w.heap.size w w1) := HB.out.trans (hb1.mono HB.out.size)
        clear C hb1 HB c0 c1 c2 c3 c4
        go_wp2
        exact ⟨⟨k + 1, by omega, by go_num, HB1, HN⟩, by simp [intOf]; omega⟩
    · obtain rfl : k = ss.length := by omega
      have HE : Hid (firstI (fun k => (nth ss k).kind = 2) ss.length = -1) := by rw [HN.out, Nat.sub_self]; rfl
      clear HN HR
      go_wp2
      go_ret
      rw [HE.out]
      exact ⟨rfl, HB.out⟩

theorem nth_take (ss : List StepD) (i k : Nat) (h : k < i) : nth (ss.take i) k = nth ss k := by
  unfold nth
  simp [List.getD, h]
theorem DRow.take {w : World} {ao : Option Addr} {n cap : Nat} {ss : List StepD} (h : DRow w (.slice ao n cap) ss) (i : Nat) (hi : i ≤ ss.length) : DRow w (.slice ao i cap) (ss.take i) := by
  obtain ⟨ao', cap', e, h2, h3, h4, h5⟩ := h
  cases e
  have hl : (ss.take i).length = i := by rw [List.length_take]; omega
  refine ⟨ao, cap, by rw [hl], by omega, h3, by omega, fun j hj => ?_⟩
  obtain ⟨g, o, k1, k2, k3⟩ := h5 j (by omega)
  rw [nth_take ss i j (by omega)]
  exact ⟨g, o, k1, k2, k3⟩

set_option maxHeartbeats 1000000 in
theorem containsP_any (v : Value) (ss : List StepD) (w : World) (h : DRow w v ss) :
    Calls Tryd.prog 56 #[v, .func (.func 57) #[] #[]] w fun e w' => e = .returned (.bool (tt (∃ k, k < ss.length ∧ (nth ss k).kind = 2))) ∧ Below w.heap.size w w' := by
  have C : Hid (Calls Tryd.prog 61 #[v, .func (.func 57) #[] #[]] w fun e w' => e = .returned (.int .i64 (firstI (fun k => (nth ss k).kind = 2) ss.length)) ∧ Below w.heap.size w w') := indexP_any v ss w h
  obtain ⟨ao, cap, rfl, _⟩ := h.slice
  have hr := firstI_range (fun k => (nth ss k).kind = 2) ss.length
  by_cases hq : ∃ k, k < ss.length ∧ (nth ss k).kind = 2
  · have HE : Hid (tt (∃ k, k < ss.length ∧ (nth ss k).kind = 2) = true) := tt_yes hq
    have h1 : 0 ≤ firstI (fun k => (nth ss k).kind = 2) ss.length := by
      rcases hr with e | e
      · obtain ⟨k, hk, e2⟩ := hq
        exact absurd e2 ((firstI_none _ _).1 e k hk)
      · exact e.1
    clear hr hq h
    generalize firstI (fun k => (nth ss k).kind = 2) ss.length = r at *
    go_enter Tryd.func56, Tryd.ntmps56
    go_wp2_with fail
    refine C.out.mono ?_
    rintro e w1 ⟨rfl, hb1⟩
    go_wp2
    go_ret
    rw [HE.out]
    exact ⟨rfl, hb1⟩
  · have HE : Hid (tt (∃ k, k < ss.length ∧ (nth ss k).kind = 2) = false) := tt_no hq
    have h1 : firstI (fun k => (nth ss k).kind = 2) ss.length = -1 := (firstI_none _ _).2 (fun i hi e => hq ⟨i, hi, e⟩)
    rw [h1] at C
    clear hr hq h h1
    go_enter Tryd.func56, Tryd.ntmps56
    go_wp2_with fail
    refine C.out.mono ?_
    rintro e w1 ⟨rfl, hb1⟩
    go_wp2
    go_ret
    rw [HE.out]
    exact ⟨rfl, hb1⟩

set_option maxHeartbeats 1000000 in
theorem pivotAgain_any (v : Value) (ss : List StepD) (i : Nat) (hi : i < ss.length) (w : World) (h : DRow w v ss) :
    Calls Tryd.prog 49 #[v, .int .i64 (i : Int)] w fun e w' => e = .returned (.bool (tt (PivotAgain ss i))) ∧ Below w.heap.size w w' := by
  obtain ⟨ao, cap, rfl, hcap⟩ := h.slice
  have C : Hid (Calls Tryd.prog 56 #[.slice ao i cap, .func (.func 57) #[] #[]] w fun e w' => e = .returned (.bool (tt (∃ k, k < (ss.take i).length ∧ (nth (ss.take i) k).kind = 2))) ∧ Below w.heap.size w w') := containsP_any _ _ w (h.take i (by omega))
  obtain ⟨ao', cap', e, _, _, hlen, hrow⟩ := h
  cases e
  obtain ⟨g, o, rfl, hg, c0, c1, _⟩ := hrow i hi
  have hl : (ss.take i).length = i := by rw [List.length_take]; omega
  have HQ : Hid ((∃ k, k < (ss.take i).length ∧ (nth (ss.take i) k).kind = 2) ↔ ∃ k, k < i ∧ (nth ss k).kind = 2) := by
    refine ⟨fun ⟨k, hk, e⟩ => ⟨k, by omega, by rwa [nth_take ss i k (by omega)] at e⟩, fun ⟨k, hk, e⟩ => ⟨k, by omega, by rwa [nth_take ss i k (by omega)]⟩⟩
  rw [tt_congr HQ.out] at C
  clear hrow hl HQ
  by_cases hq : (nth ss i).kind = 2
  · have HE : Hid (tt (PivotAgain ss i) = tt (∃ k, k < i ∧ (nth ss k).kind = 2)) := tt_congr ⟨fun h => h.2, fun h => ⟨hq, h⟩⟩
    have h' : ((nth ss i).kind == (2 : Int)) = true := by simpa using hq
    generalize tt (∃ k, k < i ∧ (nth ss k).kind = 2) = r at *
    generalize tt (PivotAgain ss i) = r2 at *
    clear hq
    go_enter Tryd.func49, Tryd.ntmps49
    go_wp2_with fail
    refine C.out.mono ?_
    rintro e w1 ⟨rfl, hb1⟩
    go_wp2
    go_ret
    rw [HE.out]
    exact ⟨rfl, hb1⟩
  · have HE : Hid (tt (PivotAgain ss i) = false) := tt_no (fun h => hq h.1)
    have h' : ((nth ss i).kind == (2 : Int)) = false := by simpa using hq
    clear hq C
    go_enter Tryd.func49, Tryd.ntmps49
    go_wp2
    go_ret
    rw [HE.out]
    exact ⟨rfl, Below.refl _ _⟩

set_option maxHeartbeats 2000000 in
theorem outOfOrder_any (v : Value) (ss : List StepD) (hN : Needy ss) (i : Nat) (hi : i < ss.length) (w : World) (h : DRow w v ss) :
    Calls Tryd.prog 50 #[v, .int .i64 (i : Int)] w fun e w' => e = .returned (.bool (tt (OutOfOrder ss i))) ∧ Below w.heap.size w w' := by
  obtain ⟨ao, cap, rfl, hcap, _, hlen, hrow⟩ := h
  obtain ⟨g, o, rfl, hg, c0, c1, c2, kv, nv, c3, c4, c5, c6⟩ := hrow i hi
  have HK : Hid (∀ j, j < ss.length → w.cell? ⟨g, o + j * 5 + 1, none⟩ = some (.int .i64 (nth ss j).kind)) := fun j hj => by
    obtain ⟨g', o', e, _, _, k, _⟩ := hrow j hj
    cases e
    exact k
  have HNY : Hid (Needy ss) := hN
  by_cases hq : (nth ss i).kind = 3
  · have HE : Hid (tt (OutOfOrder ss i) = false) := tt_no (fun h => h.1 hq)
    have h' : ((nth ss i).kind == (3 : Int)) = true := by simpa using hq
    clear hq hrow c5 c6 c3 c4 HK hN
    go_enter Tryd.func50, Tryd.ntmps50
    go_wp2
    go_ret
    rw [HE.out]
    exact ⟨rfl, Below.refl _ _⟩
  have HQ : Hid (¬ (nth ss i).kind = 3) := hq
  have h' : ((nth ss i).kind == (3 : Int)) = false := by simpa using hq
  obtain ⟨na, nc, rfl, hnc, _, hnl, hnr⟩ := c6
  have HR : Hid (∀ j, j < (nth ss i).needs.length → ∃ g o, na = some ⟨g, o, none⟩ ∧ g < w.heap.size ∧ w.cell? ⟨g, o + j, none⟩ = some (.int .i64 (needAt (nth ss i).needs j))) := hnr
  clear hq hrow c5 c3 hnr hN
  go_enter Tryd.func50, Tryd.ntmps50
  go_wp2
  go_loopw [6, 19] (fun _ k wr => ∃ n : Nat, n ≤ (nth ss i).needs.length ∧ k = .int .i64 (n : Int) ∧ Hid (Below w.heap.size w wr) ∧ Hid (∀ j, j < n → (nth ss (needAt (nth ss i).needs j).toNat).kind = 1)) (fun _ k _ => (nth ss i).needs.length - (intOf k).toNat)
  case atStart => exact ⟨0, Nat.zero_le _, rfl, Below.refl _ _, fun j hj => absurd hj (Nat.not_lt_zero _)⟩
  case round =>
    obtain ⟨n, hn, rfl, HB, HN⟩ := hrel
    by_cases hlt : n < (nth ss i).needs.length
    · obtain ⟨g2, o2, rfl, hg2, d0⟩ := HR.out n hlt
      have d1 : wr.cell? ⟨g2, o2 + n, none⟩ = some (.int .i64 (needAt (nth ss i).needs n)) := (HB.out.cell (p := ⟨g2, o2 + n, none⟩) hg2).trans d0
      obtain ⟨x0, x1, _⟩ := HNY.out i hi _ (needAt_mem hlt)
      have HM : Hid (needAt (nth ss i).needs n ∈ (nth ss i).needs) := needAt_mem hlt
      obtain ⟨x, hx⟩ : ∃ x : Nat, needAt (nth ss i).needs n = (x : Int) := ⟨_, (Int.toNat_of_nonneg x0).symm⟩
      rw [hx] at d1 x1
      have d2 : wr.cell? ⟨g, o + x * 5 + 1, none⟩ = some (.int .i64 (nth ss x).kind) := (HB.out.cell (p := ⟨g, o + x * 5 + 1, none⟩) hg).trans (HK.out x (by omega))
      have HX : Hid (needAt (nth ss i).needs n = (x : Int)) := hx
      clear d0 x0 hx c0 c1 c2 c4 HK HR
      by_cases hk : (nth ss x).kind = 1
      · have hk' : ((nth ss x).kind != (1 : Int)) = false := by simpa using hk
        have HN2 : Hid (∀ j, j < n + 1 → (nth ss (needAt (nth ss i).needs j).toNat).kind = 1) := fun j hj => by
          by_cases e : j = n
          · subst e; rw [HX.out]; exact hk
          · exact HN.out j (by omega)
        clear hk HN
        go_wp2
        exact ⟨⟨n + 1, by omega, by go_num, HB, HN2⟩, by simp [intOf]; omega⟩
      · have hk' : ((nth ss x).kind != (1 : Int)) = true := by simpa using hk
        have HE : Hid (tt (OutOfOrder ss i) = true) := tt_yes ⟨HQ.out, _, HM.out, by rw [HX.out]; exact hk⟩
        clear hk HN
        go_wp2
        go_ret
        rw [HE.out]
        exact ⟨rfl, HB.out⟩
    · obtain rfl : n = (nth ss i).needs.length := by omega
      have HE : Hid (tt (OutOfOrder ss i) = false) := tt_no (fun ⟨_, x, hx, e⟩ => by
        obtain ⟨j, hj, rfl⟩ := mem_needAt hx
        exact e (HN.out j hj))
      clear HN HR HK
      go_wp2
      go_ret
      rw [HE.out]
      exact ⟨rfl, HB.out⟩
end Go.Proofs.YtaeakednekbekaaDoor
