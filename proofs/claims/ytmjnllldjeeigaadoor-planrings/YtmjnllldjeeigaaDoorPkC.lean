/- The texts RulesW, KeyW, RingW, CheckW, one behind the other. -/
import Derived.Test.YtmjnllldjeeigaaDoorPkB
import Derived.Laws.EntriesVeiled
/- The walks of the rules pivotAgain, outOfOrder and keyUntaken, and of what they call, in package check. -/
set_option linter.unusedVariables false
set_option maxRecDepth 100000
namespace Go.Proofs.YtmjnllldjeeigaaDoor
open Go.RowKit CheckMath
open Go.Proofs.YtmjnllldjeeigaaDoor.Nm

theorem isPivot_any (s : StepD) (kv nv : Value) (hk : ∃ a n c, kv = .slice a n c) (hn : ∃ a n c, nv = .slice a n c) (w : World) :
    Calls Tryd.prog 83 #[.agg #[.string s.name, .int .i64 s.kind, .int .i64 s.part, kv, nv]] w fun e w' => e = .returned (.bool (tt (s.kind = 2))) ∧ Below w.heap.size w w' := by
  obtain ⟨ka, kn, kc, rfl⟩ := hk
  obtain ⟨na, nn, nc, rfl⟩ := hn
  by_cases h : s.kind = 2
  · have HE : Hid (tt (s.kind = 2) = true) := tt_yes h
    have h' : (s.kind == (2 : Int)) = true := by simpa using h
    clear h
    go_enter Tryd.func83, Tryd.ntmps83
    go_wp2
    go_ret
    rw [HE.out]
    exact ⟨rfl, (Below.refl _ _).alloc (Nat.le_refl _) _⟩
  · have HE : Hid (tt (s.kind = 2) = false) := tt_no h
    have h' : (s.kind == (2 : Int)) = false := by simpa using h
    clear h
    go_enter Tryd.func83, Tryd.ntmps83
    go_wp2
    go_ret
    rw [HE.out]
    exact ⟨rfl, (Below.refl _ _).alloc (Nat.le_refl _) _⟩

set_option maxHeartbeats 2000000 in
theorem indexP_any (v : Value) (ss : List StepD) (w : World) (h : DRow w v ss) :
    Calls Tryd.prog 87 #[v, .func (.func 83) #[] #[]] w fun e w' => e = .returned (.int .i64 (firstI (fun k => (nth ss k).kind = 2) ss.length)) ∧ Below w.heap.size w w' := by
  obtain ⟨ao, cap, rfl, hcap, hn0, hlen, hrow⟩ := h
  have HR : Hid (∀ j, j < ss.length → ∃ g o, ao = some ⟨g, o, none⟩ ∧ g < w.heap.size ∧ StepIn w g (o + j * 5) (nth ss j)) := hrow
  clear hrow hn0
  go_enter Tryd.func87, Tryd.ntmps87
  go_wp2
  go_loopw [5, 8] (fun _ i wr => ∃ k : Nat, k ≤ ss.length ∧ i = .int .i64 (k : Int) ∧ Hid (Below w.heap.size w wr) ∧ Hid (firstI (fun k => (nth ss k).kind = 2) ss.length = firstF (fun k => (nth ss k).kind = 2) k (ss.length - k))) (fun _ i _ => ss.length - (intOf i).toNat)
  case atStart => exact ⟨0, Nat.zero_le _, rfl, Below.refl _ _, rfl⟩
  case round =>
    obtain ⟨k, hk, rfl, HB, HN⟩ := hrel
    by_cases hlt : k < ss.length
    · obtain ⟨g, o, rfl, hg, hs⟩ := HR.out k hlt
      obtain ⟨c0, c1, c2, kv, nv, c3, c4, c5, c6⟩ := hs.below hg HB.out
      obtain ⟨ka, kc, rfl⟩ := c5.slice
      obtain ⟨na, nc, rfl⟩ := c6.slice
      have C : Hid (Calls Tryd.prog 83 #[.agg #[.string (nth ss k).name, .int .i64 (nth ss k).kind, .int .i64 (nth ss k).part, .slice ka (nth ss k).keys.length kc, .slice na (nth ss k).needs.length nc]] wr fun e w' => e = .returned (.bool (tt ((nth ss k).kind = 2))) ∧ Below wr.heap.size wr w') := isPivot_any (nth ss k) _ _ ⟨_, _, _, rfl⟩ ⟨_, _, _, rfl⟩ wr
      rw [show ss.length - k = (ss.length - (k + 1)) + 1 by omega, firstF] at HN
      clear hs c5 c6 HR
      by_cases hq : (nth ss k).kind = 2
      · rw [tt_yes hq] at C HN
        simp only [if_true] at HN
        clear hq
        generalize (nth ss k).kind = sk at *
        go_wp2_with fail
        refine C.out.mono ?_
        rintro e w1 ⟨rfl, hb1⟩
        have HB1 : Hid (Below w.heap.size w w1) := HB.out.trans (hb1.mono HB.out.size)
        clear C hb1 HB c0 c1 c2 c3 c4
        go_wp2
        go_ret
        rw [HN.out]
        exact ⟨rfl, HB1.out⟩
      · rw [tt_no hq] at C HN
        simp only [Bool.false_eq_true, if_false] at HN
        clear hq
        generalize (nth ss k).kind = sk at c1 C
        go_wp2_with fail
        refine C.out.mono ?_
        rintro e w1 ⟨rfl, hb1⟩
        have HB1 : Hid (Below w.heap.size w w1) := HB.out.trans (hb1.mono HB.out.size)
        clear C hb1 HB c0 c1 c2 c3 c4
        go_wp2
        exact ⟨⟨k + 1, by omega, by go_num, HB1, HN⟩, by simp [intOf]; omega⟩
    · obtain rfl : k = ss.length := by omega
      have HE : Hid (firstI (fun k => (nth ss k).kind = 2) ss.length = -1) := by rw [HN.out, Nat.sub_self]; rfl
      clear HN HR
      go_wp2
      go_ret
      rw [HE.out]
      exact ⟨rfl, HB.out⟩

theorem nth_take (ss : List StepD) (i k : Nat) (h : k < i) : nth (ss.take i) k = nth ss k := by
  unfold nth
  simp [List.getD, h]
theorem DRow.take {w : World} {ao : Option Addr} {n cap : Nat} {ss : List StepD} (h : DRow w (.slice ao n cap) ss) (i : Nat) (hi : i ≤ ss.length) : DRow w (.slice ao i cap) (ss.take i) := by
  obtain ⟨ao', cap', e, h2, h3, h4, h5⟩ := h
  cases e
  have hl : (ss.take i).length = i := by rw [List.length_take]; omega
  refine ⟨ao, cap, by rw [hl], by omega, h3, by omega, fun j hj => ?_⟩
  obtain ⟨g, o, k1, k2, k3⟩ := h5 j (by omega)
  rw [nth_take ss i j (by omega)]
  exact ⟨g, o, k1, k2, k3⟩

set_option maxHeartbeats 1000000 in
theorem containsP_any (v : Value) (ss : List StepD) (w : World) (h : DRow w v ss) :
    Calls Tryd.prog 82 #[v, .func (.func 83) #[] #[]] w fun e w' => e = .returned (.bool (tt (∃ k, k < ss.length ∧ (nth ss k).kind = 2))) ∧ Below w.heap.size w w' := by
  have C : Hid (Calls Tryd.prog 87 #[v, .func (.func 83) #[] #[]] w fun e w' => e = .returned (.int .i64 (firstI (fun k => (nth ss k).kind = 2) ss.length)) ∧ Below w.heap.size w w') := indexP_any v ss w h
  obtain ⟨ao, cap, rfl, _⟩ := h.slice
  have hr := firstI_range (fun k => (nth ss k).kind = 2) ss.length
  by_cases hq : ∃ k, k < ss.length ∧ (nth ss k).kind = 2
  · have HE : Hid (tt (∃ k, k < ss.length ∧ (nth ss k).kind = 2) = true) := tt_yes hq
    have h1 : 0 ≤ firstI (fun k => (nth ss k).kind = 2) ss.length := by
      rcases hr with e | e
      · obtain ⟨k, hk, e2⟩ := hq
        exact absurd e2 ((firstI_none _ _).1 e k hk)
      · exact e.1
    clear hr hq h
    generalize firstI (fun k => (nth ss k).kind = 2) ss.length = r at *
    go_enter Tryd.func82, Tryd.ntmps82
    go_wp2_with fail
    refine C.out.mono ?_
    rintro e w1 ⟨rfl, hb1⟩
    go_wp2
    go_ret
    rw [HE.out]
    exact ⟨rfl, hb1⟩
  · have HE : Hid (tt (∃ k, k < ss.length ∧ (nth ss k).kind = 2) = false) := tt_no hq
    have h1 : firstI (fun k => (nth ss k).kind = 2) ss.length = -1 := (firstI_none _ _).2 (fun i hi e => hq ⟨i, hi, e⟩)
    rw [h1] at C
    clear hr hq h h1
    go_enter Tryd.func82, Tryd.ntmps82
    go_wp2_with fail
    refine C.out.mono ?_
    rintro e w1 ⟨rfl, hb1⟩
    go_wp2
    go_ret
    rw [HE.out]
    exact ⟨rfl, hb1⟩

set_option maxHeartbeats 1000000 in
theorem pivotAgain_any (v : Value) (ss : List StepD) (i : Nat) (hi : i < ss.length) (w : World) (h : DRow w v ss) :
    Calls Tryd.prog 75 #[v, .int .i64 (i : Int)] w fun e w' => e = .returned (.bool (tt (PivotAgain ss i))) ∧ Below w.heap.size w w' := by
  obtain ⟨ao, cap, rfl, hcap⟩ := h.slice
  have C : Hid (Calls Tryd.prog 82 #[.slice ao i cap, .func (.func 83) #[] #[]] w fun e w' => e = .returned (.bool (tt (∃ k, k < (ss.take i).length ∧ (nth (ss.take i) k).kind = 2))) ∧ Below w.heap.size w w') := containsP_any _ _ w (h.take i (by omega))
  obtain ⟨ao', cap', e, _, _, hlen, hrow⟩ := h
  cases e
  obtain ⟨g, o, rfl, hg, c0, c1, _⟩ := hrow i hi
  have hl : (ss.take i).length = i := by rw [List.length_take]; omega
  have HQ : Hid ((∃ k, k < (ss.take i).length ∧ (nth (ss.take i) k).kind = 2) ↔ ∃ k, k < i ∧ (nth ss k).kind = 2) := by
    refine ⟨fun ⟨k, hk, e⟩ => ⟨k, by omega, by rwa [nth_take ss i k (by omega)] at e⟩, fun ⟨k, hk, e⟩ => ⟨k, by omega, by rwa [nth_take ss i k (by omega)]⟩⟩
  rw [tt_congr HQ.out] at C
  clear hrow hl HQ
  by_cases hq : (nth ss i).kind = 2
  · have HE : Hid (tt (PivotAgain ss i) = tt (∃ k, k < i ∧ (nth ss k).kind = 2)) := tt_congr ⟨fun h => h.2, fun h => ⟨hq, h⟩⟩
    have h' : ((nth ss i).kind == (2 : Int)) = true := by simpa using hq
    generalize tt (∃ k, k < i ∧ (nth ss k).kind = 2) = r at *
    generalize tt (PivotAgain ss i) = r2 at *
    clear hq
    go_enter Tryd.func75, Tryd.ntmps75
    go_wp2_with fail
    refine C.out.mono ?_
    rintro e w1 ⟨rfl, hb1⟩
    go_wp2
    go_ret
    rw [HE.out]
    exact ⟨rfl, hb1⟩
  · have HE : Hid (tt (PivotAgain ss i) = false) := tt_no (fun h => hq h.1)
    have h' : ((nth ss i).kind == (2 : Int)) = false := by simpa using hq
    clear hq C
    go_enter Tryd.func75, Tryd.ntmps75
    go_wp2
    go_ret
    rw [HE.out]
    exact ⟨rfl, Below.refl _ _⟩

set_option maxHeartbeats 2000000 in
theorem outOfOrder_any (v : Value) (ss : List StepD) (hN : Needy ss) (i : Nat) (hi : i < ss.length) (w : World) (h : DRow w v ss) :
    Calls Tryd.prog 76 #[v, .int .i64 (i : Int)] w fun e w' => e = .returned (.bool (tt (OutOfOrder ss i))) ∧ Below w.heap.size w w' := by
  obtain ⟨ao, cap, rfl, hcap, _, hlen, hrow⟩ := h
  obtain ⟨g, o, rfl, hg, c0, c1, c2, kv, nv, c3, c4, c5, c6⟩ := hrow i hi
  have HK : Hid (∀ j, j < ss.length → w.cell? ⟨g, o + j * 5 + 1, none⟩ = some (.int .i64 (nth ss j).kind)) := fun j hj => by
    obtain ⟨g', o', e, _, _, k, _⟩ := hrow j hj
    cases e
    exact k
  have HNY : Hid (Needy ss) := hN
  by_cases hq : (nth ss i).kind = 3
  · have HE : Hid (tt (OutOfOrder ss i) = false) := tt_no (fun h => h.1 hq)
    have h' : ((nth ss i).kind == (3 : Int)) = true := by simpa using hq
    clear hq hrow c5 c6 c3 c4 HK hN
    go_enter Tryd.func76, Tryd.ntmps76
    go_wp2
    go_ret
    rw [HE.out]
    exact ⟨rfl, Below.refl _ _⟩
  have HQ : Hid (¬ (nth ss i).kind = 3) := hq
  have h' : ((nth ss i).kind == (3 : Int)) = false := by simpa using hq
  obtain ⟨na, nc, rfl, hnc, _, hnl, hnr⟩ := c6
  have HR : Hid (∀ j, j < (nth ss i).needs.length → ∃ g o, na = some ⟨g, o, none⟩ ∧ g < w.heap.size ∧ w.cell? ⟨g, o + j, none⟩ = some (.int .i64 (needAt (nth ss i).needs j))) := hnr
  clear hq hrow c5 c3 hnr hN
  go_enter Tryd.func76, Tryd.ntmps76
  go_wp2
  go_loopw [6, 19] (fun _ k wr => ∃ n : Nat, n ≤ (nth ss i).needs.length ∧ k = .int .i64 (n : Int) ∧ Hid (Below w.heap.size w wr) ∧ Hid (∀ j, j < n → (nth ss (needAt (nth ss i).needs j).toNat).kind = 1)) (fun _ k _ => (nth ss i).needs.length - (intOf k).toNat)
  case atStart => exact ⟨0, Nat.zero_le _, rfl, Below.refl _ _, fun j hj => absurd hj (Nat.not_lt_zero _)⟩
  case round =>
    obtain ⟨n, hn, rfl, HB, HN⟩ := hrel
    by_cases hlt : n < (nth ss i).needs.length
    · obtain ⟨g2, o2, rfl, hg2, d0⟩ := HR.out n hlt
      have d1 : wr.cell? ⟨g2, o2 + n, none⟩ = some (.int .i64 (needAt (nth ss i).needs n)) := (HB.out.cell (p := ⟨g2, o2 + n, none⟩) hg2).trans d0
      obtain ⟨x0, x1, _⟩ := HNY.out i hi _ (needAt_mem hlt)
      have HM : Hid (needAt (nth ss i).needs n ∈ (nth ss i).needs) := needAt_mem hlt
      obtain ⟨x, hx⟩ : ∃ x : Nat, needAt (nth ss i).needs n = (x : Int) := ⟨_, (Int.toNat_of_nonneg x0).symm⟩
      rw [hx] at d1 x1
      have d2 : wr.cell? ⟨g, o + x * 5 + 1, none⟩ = some (.int .i64 (nth ss x).kind) := (HB.out.cell (p := ⟨g, o + x * 5 + 1, none⟩) hg).trans (HK.out x (by omega))
      have HX : Hid (needAt (nth ss i).needs n = (x : Int)) := hx
      clear d0 x0 hx c0 c1 c2 c4 HK HR
      by_cases hk : (nth ss x).kind = 1
      · have hk' : ((nth ss x).kind != (1 : Int)) = false := by simpa using hk
        have HN2 : Hid (∀ j, j < n + 1 → (nth ss (needAt (nth ss i).needs j).toNat).kind = 1) := fun j hj => by
          by_cases e : j = n
          · subst e; rw [HX.out]; exact hk
          · exact HN.out j (by omega)
        clear hk HN
        go_wp2
        exact ⟨⟨n + 1, by omega, by go_num, HB, HN2⟩, by simp [intOf]; omega⟩
      · have hk' : ((nth ss x).kind != (1 : Int)) = true := by simpa using hk
        have HE : Hid (tt (OutOfOrder ss i) = true) := tt_yes ⟨HQ.out, _, HM.out, by rw [HX.out]; exact hk⟩
        clear hk HN
        go_wp2
        go_ret
        rw [HE.out]
        exact ⟨rfl, HB.out⟩
    · obtain rfl : n = (nth ss i).needs.length := by omega
      have HE : Hid (tt (OutOfOrder ss i) = false) := tt_no (fun ⟨_, x, hx, e⟩ => by
        obtain ⟨j, hj, rfl⟩ := mem_needAt hx
        exact e (HN.out j hj))
      clear HN HR HK
      go_wp2
      go_ret
      rw [HE.out]
      exact ⟨rfl, HB.out⟩
end Go.Proofs.YtmjnllldjeeigaaDoor

/- The walks of slices.Index and Contains at texts, takenEarlier and keyUntaken, in package check. -/
set_option linter.unusedVariables false
set_option maxRecDepth 100000
namespace Go.Proofs.YtmjnllldjeeigaaDoor
open Go.RowKit CheckMath
open Go.Proofs.YtmjnllldjeeigaaDoor.Nm

set_option maxHeartbeats 2000000 in
theorem indexT_any (v : Value) (xs : List ByteArray) (y : ByteArray) (w : World) (h : KRow w v xs) :
    Calls Tryd.prog 90 #[v, .string y] w fun e w' => e = .returned (.int .i64 (firstI (fun k => keyAt xs k = y) xs.length)) ∧ Below w.heap.size w w' := by
  obtain ⟨ao, cap, rfl, hcap, hn0, ⟨hlen, _⟩, hrow⟩ := h
  have HR : Hid (∀ j, j < xs.length → ∃ g o, ao = some ⟨g, o, none⟩ ∧ g < w.heap.size ∧ w.cell? ⟨g, o + j, none⟩ = some (.string (keyAt xs j))) := hrow
  clear hrow hn0
  go_enter Tryd.func90, Tryd.ntmps90
  go_wp2
  go_loopw [5, 8] (fun _ i wr => ∃ k : Nat, k ≤ xs.length ∧ i = .int .i64 (k : Int) ∧ Hid (Below w.heap.size w wr) ∧ Hid (firstI (fun k => keyAt xs k = y) xs.length = firstF (fun k => keyAt xs k = y) k (xs.length - k))) (fun _ i _ => xs.length - (intOf i).toNat)
  case atStart => exact ⟨0, Nat.zero_le _, rfl, Below.refl _ _, rfl⟩
  case round =>
    obtain ⟨k, hk, rfl, HB, HN⟩ := hrel
    by_cases hlt : k < xs.length
    · obtain ⟨g, o, rfl, hg, c0⟩ := HR.out k hlt
      have d0 : wr.cell? ⟨g, o + k, none⟩ = some (.string (keyAt xs k)) := (HB.out.cell (p := ⟨g, o + k, none⟩) hg).trans c0
      rw [show xs.length - k = (xs.length - (k + 1)) + 1 by omega, firstF] at HN
      clear c0 HR
      by_cases hq : keyAt xs k = y
      · rw [tt_yes hq] at HN
        simp only [if_true] at HN
        have hq2 : (y.toList == (keyAt xs k).toList) = true := txt_eq hq.symm
        clear hq
        generalize keyAt xs k = z at *
        go_wp2
        go_ret
        rw [HN.out]
        exact ⟨rfl, HB.out⟩
      · rw [tt_no hq] at HN
        simp only [Bool.false_eq_true, if_false] at HN
        have hq2 : (y.toList == (keyAt xs k).toList) = false := txt_ne (fun e => hq e.symm)
        clear hq
        generalize keyAt xs k = z at d0 hq2
        go_wp2
        exact ⟨⟨k + 1, by omega, by go_num, HB, HN⟩, by simp [intOf]; omega⟩
    · obtain rfl : k = xs.length := by omega
      have HE : Hid (firstI (fun k => keyAt xs k = y) xs.length = -1) := by rw [HN.out, Nat.sub_self]; rfl
      clear HN HR
      go_wp2
      go_ret
      rw [HE.out]
      exact ⟨rfl, HB.out⟩
set_option maxHeartbeats 1000000 in
theorem containsT_any (v : Value) (xs : List ByteArray) (y : ByteArray) (w : World) (h : KRow w v xs) :
    Calls Tryd.prog 88 #[v, .string y] w fun e w' => e = .returned (.bool (tt (y ∈ xs))) ∧ Below w.heap.size w w' := by
  have C : Hid (Calls Tryd.prog 90 #[v, .string y] w fun e w' => e = .returned (.int .i64 (firstI (fun k => keyAt xs k = y) xs.length)) ∧ Below w.heap.size w w') := indexT_any v xs y w h
  obtain ⟨ao, cap, rfl⟩ := h.slice
  have hr := firstI_range (fun k => keyAt xs k = y) xs.length
  by_cases hq : y ∈ xs
  · have HE : Hid (tt (y ∈ xs) = true) := tt_yes hq
    have h1 : 0 ≤ firstI (fun k => keyAt xs k = y) xs.length := by
      rcases hr with e | e
      · obtain ⟨k, hk, e2⟩ := mem_keyAt hq
        exact absurd e2 ((firstI_none _ _).1 e k hk)
      · exact e.1
    clear hr hq h
    generalize firstI (fun k => keyAt xs k = y) xs.length = r at *
    go_enter Tryd.func88, Tryd.ntmps88
    go_wp2_with fail
    refine C.out.mono ?_
    rintro e w1 ⟨rfl, hb1⟩
    go_wp2
    go_ret
    rw [HE.out]
    exact ⟨rfl, hb1⟩
  · have HE : Hid (tt (y ∈ xs) = false) := tt_no hq
    have h1 : firstI (fun k => keyAt xs k = y) xs.length = -1 := (firstI_none _ _).2 (fun i hi e => hq (by rw [← e]; exact keyAt_mem hi))
    rw [h1] at C
    clear hr hq h h1
    go_enter Tryd.func88, Tryd.ntmps88
    go_wp2_with fail
    refine C.out.mono ?_
    rintro e w1 ⟨rfl, hb1⟩
    go_wp2
    go_ret
    rw [HE.out]
    exact ⟨rfl, hb1⟩

set_option maxHeartbeats 2000000 in
theorem takenEarlier_any (v : Value) (ss : List StepD) (y : ByteArray) (w : World) (h : DRow w v ss) :
    Calls Tryd.prog 85 #[v, .string y] w fun e w' => e = .returned (.bool (tt (Taken ss y))) ∧ Below w.heap.size w w' := by
  obtain ⟨ao, cap, rfl, hcap, hn0, hlen, hrow⟩ := h
  have HR : Hid (∀ j, j < ss.length → ∃ g o, ao = some ⟨g, o, none⟩ ∧ g < w.heap.size ∧ StepIn w g (o + j * 5) (nth ss j)) := hrow
  clear hrow hn0
  go_enter Tryd.func85, Tryd.ntmps85
  go_wp2
  go_loopw [6, 9] (fun _ i wr => ∃ k : Nat, k ≤ ss.length ∧ i = .int .i64 (k : Int) ∧ Hid (Below w.heap.size w wr) ∧ Hid (∀ j, j < k → ¬ ((nth ss j).kind ≠ 3 ∧ y ∈ (nth ss j).keys))) (fun _ i _ => ss.length - (intOf i).toNat)
  case atStart => exact ⟨0, Nat.zero_le _, rfl, Below.refl _ _, fun j hj => absurd hj (Nat.not_lt_zero _)⟩
  case round =>
    obtain ⟨k, hk, rfl, HB, HN⟩ := hrel
    by_cases hlt : k < ss.length
    · obtain ⟨g, o, rfl, hg, hs⟩ := HR.out k hlt
      obtain ⟨c0, c1, c2, kv, nv, c3, c4, c5, c6⟩ := hs.below hg HB.out
      obtain ⟨na, nc, rfl⟩ := c6.slice
      obtain ⟨ka, kc, hkv⟩ := c5.slice
      have HY : Hid ((nth ss k).kind ≠ 3 ∧ y ∈ (nth ss k).keys → tt (Taken ss y) = true) := fun h => tt_yes ⟨k, hlt, h⟩
      have HN2 : Hid (¬ ((nth ss k).kind ≠ 3 ∧ y ∈ (nth ss k).keys) → ∀ j, j < k + 1 → ¬ ((nth ss j).kind ≠ 3 ∧ y ∈ (nth ss j).keys)) := fun h0 j hj => by
        by_cases e : j = k
        · subst e; exact h0
        · exact HN.out j (by omega)
      have hb0 : Below wr.heap.size wr (wr.alloc (.cells #[.string (nth ss k).name, .int .i64 (nth ss k).kind, .int .i64 (nth ss k).part, kv, .slice na (nth ss k).needs.length nc] 42)) := (Below.refl _ _).alloc (Nat.le_refl _) _
      have HB1 : Hid (Below w.heap.size w (wr.alloc (.cells #[.string (nth ss k).name, .int .i64 (nth ss k).kind, .int .i64 (nth ss k).part, kv, .slice na (nth ss k).needs.length nc] 42))) := HB.out.alloc HB.out.size _
      have C : Hid (Calls Tryd.prog 88 #[kv, .string y] (wr.alloc (.cells #[.string (nth ss k).name, .int .i64 (nth ss k).kind, .int .i64 (nth ss k).part, kv, .slice na (nth ss k).needs.length nc] 42)) fun e w' => e = .returned (.bool (tt (y ∈ (nth ss k).keys))) ∧ Below (wr.alloc (.cells #[.string (nth ss k).name, .int .i64 (nth ss k).kind, .int .i64 (nth ss k).part, kv, .slice na (nth ss k).needs.length nc] 42)).heap.size (wr.alloc (.cells #[.string (nth ss k).name, .int .i64 (nth ss k).kind, .int .i64 (nth ss k).part, kv, .slice na (nth ss k).needs.length nc] 42)) w') := containsT_any _ _ _ _ (c5.below hb0)
      subst hkv
      clear c5 c6 HR HN hs hb0
      by_cases h3 : (nth ss k).kind = 3
      · have h3' : ((nth ss k).kind != (3 : Int)) = false := by simpa using h3
        have HN3 := HN2.out (fun h => h.1 h3)
        clear h3 HN2 HY C
        generalize (nth ss k).kind = sk at *
        go_wp2
        exact ⟨⟨k + 1, by omega, by go_num, HB1, HN3⟩, by simp [intOf]; omega⟩
      · have h3' : ((nth ss k).kind != (3 : Int)) = true := by simpa using h3
        by_cases hm : y ∈ (nth ss k).keys
        · rw [tt_yes hm] at C
          have HE := HY.out ⟨h3, hm⟩
          clear h3 HN2 HY hm
          generalize (nth ss k).kind = sk at *
          go_wp2_with fail
          refine C.out.mono ?_
          rintro e w1 ⟨rfl, hb1⟩
          have HB2 : Hid (Below w.heap.size w w1) := HB1.out.trans (hb1.mono HB1.out.size)
          clear C hb1 HB1
          go_wp2
          go_ret
          rw [HE]
          exact ⟨rfl, HB2.out⟩
        · rw [tt_no hm] at C
          have HN3 : Hid _ := HN2.out (fun h => hm h.2)
          clear h3 HN2 HY hm
          generalize (nth ss k).kind = sk at c1 C HB1 h3'
          go_wp2_with fail
          refine C.out.mono ?_
          rintro e w1 ⟨rfl, hb1⟩
          have HB2 : Hid (Below w.heap.size w w1) := HB1.out.trans (hb1.mono HB1.out.size)
          clear C hb1 HB1
          go_wp2
          exact ⟨⟨k + 1, by omega, by go_num, HB2, HN3⟩, by simp [intOf]; omega⟩
    · obtain rfl : k = ss.length := by omega
      have HE : Hid (tt (Taken ss y) = false) := tt_no (fun ⟨k, hk, h⟩ => HN.out k hk h)
      clear HN HR
      go_wp2
      go_ret
      rw [HE.out]
      exact ⟨rfl, HB.out⟩

set_option maxHeartbeats 2000000 in
theorem keyUntaken_any (v : Value) (ss : List StepD) (i : Nat) (hi : i < ss.length) (w : World) (h : DRow w v ss) :
    Calls Tryd.prog 78 #[v, .int .i64 (i : Int)] w fun e w' => e = .returned (.bool (tt (KeyUntaken ss i))) ∧ Below w.heap.size w w' := by
  have HD : Hid (DRow w v ss) := h
  obtain ⟨ao, cap, rfl, hcap, _, hlen, hrow⟩ := h
  obtain ⟨g, o, rfl, hg, c0, c1, c2, kv, nv, c3, c4, c5, c6⟩ := hrow i hi
  by_cases hq : (nth ss i).kind = 3
  case neg =>
    have HE : Hid (tt (KeyUntaken ss i) = false) := tt_no (fun h => hq h.1)
    have h' : ((nth ss i).kind != (3 : Int)) = true := by simpa using hq
    clear hq hrow c5 c6 c3 c4 HD
    go_enter Tryd.func78, Tryd.ntmps78
    go_wp2
    go_ret
    rw [HE.out]
    exact ⟨rfl, Below.refl _ _⟩
  have HQ : Hid ((nth ss i).kind = 3) := hq
  have h' : ((nth ss i).kind != (3 : Int)) = false := by simpa using hq
  obtain ⟨ka, kc, rfl, hkc, _, ⟨hkl, _⟩, hkr⟩ := c5
  have HR : Hid (∀ j, j < (nth ss i).keys.length → ∃ g o, ka = some ⟨g, o, none⟩ ∧ g < w.heap.size ∧ w.cell? ⟨g, o + j, none⟩ = some (.string (keyAt (nth ss i).keys j))) := hkr
  clear hq hrow c6 c4 hkr
  go_enter Tryd.func78, Tryd.ntmps78
  go_wp2
  go_loopw [6, 19] (fun _ k wr => ∃ n : Nat, n ≤ (nth ss i).keys.length ∧ k = .int .i64 (n : Int) ∧ Hid (Below w.heap.size w wr) ∧ Hid (∀ j, j < n → Taken ss (keyAt (nth ss i).keys j))) (fun _ k _ => (nth ss i).keys.length - (intOf k).toNat)
  case atStart => exact ⟨0, Nat.zero_le _, rfl, Below.refl _ _, fun j hj => absurd hj (Nat.not_lt_zero _)⟩
  case round =>
    obtain ⟨n, hn, rfl, HB, HN⟩ := hrel
    by_cases hlt : n < (nth ss i).keys.length
    · obtain ⟨g2, o2, rfl, hg2, d0⟩ := HR.out n hlt
      have d1 : wr.cell? ⟨g2, o2 + n, none⟩ = some (.string (keyAt (nth ss i).keys n)) := (HB.out.cell (p := ⟨g2, o2 + n, none⟩) hg2).trans d0
      have C : Hid (Calls Tryd.prog 85 #[.slice (some ⟨g, o, none⟩) ss.length cap, .string (keyAt (nth ss i).keys n)] wr fun e w' => e = .returned (.bool (tt (Taken ss (keyAt (nth ss i).keys n)))) ∧ Below wr.heap.size wr w') := takenEarlier_any _ _ _ _ (HD.out.below HB.out)
      have HM : Hid (keyAt (nth ss i).keys n ∈ (nth ss i).keys) := keyAt_mem hlt
      clear d0 c0 c1 c2 c3 HR HD
      by_cases hk : Taken ss (keyAt (nth ss i).keys n)
      · rw [tt_yes hk] at C
        have HN2 : Hid (∀ j, j < n + 1 → Taken ss (keyAt (nth ss i).keys j)) := fun j hj => by
          by_cases e : j = n
          · subst e; exact hk
          · exact HN.out j (by omega)
        clear hk HN HM
        generalize keyAt (nth ss i).keys n = y at d1 C
        go_wp2_with fail
        refine C.out.mono ?_
        rintro e w1 ⟨rfl, hb1⟩
        have HB2 : Hid (Below w.heap.size w w1) := HB.out.trans (hb1.mono HB.out.size)
        clear C hb1 HB
        go_wp2
        exact ⟨⟨n + 1, by omega, by go_num, HB2, HN2⟩, by simp [intOf]; omega⟩
      · rw [tt_no hk] at C
        have HE : Hid (tt (KeyUntaken ss i) = true) := tt_yes ⟨HQ.out, _, HM.out, hk⟩
        clear hk HN HM
        generalize keyAt (nth ss i).keys n = y at *
        go_wp2_with fail
        refine C.out.mono ?_
        rintro e w1 ⟨rfl, hb1⟩
        have HB2 : Hid (Below w.heap.size w w1) := HB.out.trans (hb1.mono HB.out.size)
        clear C hb1 HB
        go_wp2
        go_ret
        rw [HE.out]
        exact ⟨rfl, HB2.out⟩
    · obtain rfl : n = (nth ss i).keys.length := by omega
      have HE : Hid (tt (KeyUntaken ss i) = false) := tt_no (fun ⟨_, x, hx, e⟩ => by
        obtain ⟨j, hj, rfl⟩ := mem_keyAt hx
        exact e (HN.out j hj))
      clear HN HR HD
      go_wp2
      go_ret
      rw [HE.out]
      exact ⟨rfl, HB.out⟩
end Go.Proofs.YtmjnllldjeeigaaDoor

/- The walks of inRing and of the closure that looks for rings, in package check. -/
set_option linter.unusedVariables false
set_option maxRecDepth 100000
namespace Go.Proofs.YtmjnllldjeeigaaDoor
open Go.RowKit CheckMath
open Go.Proofs.YtmjnllldjeeigaaDoor.Nm

def upd (l : Nat → Bool) (x : Nat) : Nat → Bool := fun j => if j = x then true else l j
theorem upd_at (l : Nat → Bool) (x : Nat) : upd l x x = true := by simp [upd]
theorem upd_le {l : Nat → Bool} {x y : Nat} (h : l y = true) : upd l x y = true := by unfold upd; split <;> simp [*]
theorem upd_cases {l : Nat → Bool} {x y : Nat} (h : upd l x y = true) : y = x ∨ l y = true := by
  unfold upd at h
  by_cases e : y = x
  · exact Or.inl e
  · rw [if_neg e] at h; exact Or.inr h
/-- The closure's own variables. -/
def leadV (bb sb ib lb : Nat) : Value := .func (.func 84) #[] #[.pointer (some ⟨bb, 0, none⟩), .pointer (some ⟨sb, 0, none⟩), .pointer (some ⟨ib, 0, none⟩), .pointer (some ⟨lb, 0, none⟩)]
structure RingAt (w0 : World) (bb sb ib lb : Nat) (v : Value) (i : Nat) (l : Nat → Bool) (wr : World) : Prop where
  bel : Below w0.heap.size w0 wr
  base : w0.heap.size ≤ bb ∧ bb < wr.heap.size
  been : ∀ j, j < 8 → wr.cell? ⟨bb, j, none⟩ = some (.bool (l j)) ∧ wr.frozen? ⟨bb, j, none⟩ = false
  st : wr.cell? ⟨sb, 0, none⟩ = some v
  ii : wr.cell? ⟨ib, 0, none⟩ = some (.int .i64 (i : Int))
  lf : wr.cell? ⟨lb, 0, none⟩ = some (leadV bb sb ib lb)
  ne : bb ≠ sb ∧ bb ≠ ib ∧ bb ≠ lb
theorem RingAt.set {w0 : World} {bb sb ib lb : Nat} {v : Value} {i : Nat} {l : Nat → Bool} {wr : World} (h : RingAt w0 bb sb ib lb v i l wr) (x : Nat) : RingAt w0 bb sb ib lb v i (upd l x) (wr.setCell ⟨bb, x, none⟩ (.bool true)) := by
  obtain ⟨h1, h2, h3, h4, h5, h6, n1, n2, n3⟩ := h
  have hc := chg_set wr ⟨bb, x, none⟩ (.bool true)
  have hb : Below w0.heap.size wr (wr.setCell ⟨bb, x, none⟩ (.bool true)) := below_chg hc h1.size (fun k hk e => by simp only at e; omega)
  refine ⟨h1.trans hb, ⟨h2.1, Nat.lt_of_lt_of_le h2.2 hc.size⟩, fun j hj => ?_, ?_, ?_, ?_, n1, n2, n3⟩
  · refine ⟨?_, ?_⟩
    · by_cases e : j = x
      · subst e
        rw [upd_at]
        exact World.cell?_setCell_same _ _ _ (h3 j hj).1
      · unfold upd
        rw [if_neg e, World.cell?_setCell_other wr _ _ _ (fun e' => e (congrArg Addr.off e').symm)]
        exact (h3 j hj).1
    · rw [World.frozen?_setCell]; exact (h3 j hj).2
  · rw [World.cell?_setCell_other wr _ _ _ (fun e' => n1 (congrArg Addr.block e'))]; exact h4
  · rw [World.cell?_setCell_other wr _ _ _ (fun e' => n2 (congrArg Addr.block e'))]; exact h5
  · rw [World.cell?_setCell_other wr _ _ _ (fun e' => n3 (congrArg Addr.block e'))]; exact h6
def LeadOk (ss : List StepD) (i : Nat) (l : Nat → Bool) (x : Nat) (b : Bool) (l' : Nat → Bool) : Prop :=
  (∀ y, l y = true → l' y = true) ∧ l' x = true ∧ (b = true → Path (CheckMath.Edge ss) x i) ∧ (b = false → ∀ y, l' y = true → ¬ l y = true → ∀ z, CheckMath.Edge ss y z → l' z = true ∧ z ≠ i)
/-- What stands when some of a step's needs were gone along. -/
def LoopOk (ss : List StepD) (i : Nat) (l : Nat → Bool) (x : Nat) (l1 : Nat → Bool) (k : Nat) : Prop :=
  (∀ y, upd l x y = true → l1 y = true) ∧ (∀ y, l1 y = true → ¬ upd l x y = true → ∀ z, CheckMath.Edge ss y z → l1 z = true ∧ z ≠ i) ∧ ∀ j, j < k → l1 (needAt (nth ss x).needs j).toNat = true ∧ (needAt (nth ss x).needs j).toNat ≠ i
theorem LoopOk.start (ss : List StepD) (i : Nat) (l : Nat → Bool) (x : Nat) : LoopOk ss i l x (upd l x) 0 := ⟨fun y h => h, fun y h h2 => absurd h h2, fun j hj => absurd hj (Nat.not_lt_zero _)⟩
theorem LoopOk.more {ss : List StepD} {i : Nat} {l l1 l2 : Nat → Bool} {x k y : Nat} (h : LoopOk ss i l x l1 k) (hy : needAt (nth ss x).needs k = (y : Int)) (hl : LeadOk ss i l1 y false l2) (hi : y ≠ i) : LoopOk ss i l x l2 (k + 1) := by
  obtain ⟨h1, h2, h3⟩ := h
  obtain ⟨k1, k2, k3, k4⟩ := hl
  refine ⟨fun z hz => k1 z (h1 z hz), fun z hz hn t ht => ?_, fun j hj => ?_⟩
  · by_cases e : l1 z = true
    · exact ⟨k1 _ (h2 z e hn t ht).1, (h2 z e hn t ht).2⟩
    · exact k4 rfl z hz e t ht
  · by_cases e : j = k
    · subst e; rw [hy]; exact ⟨k2, hi⟩
    · exact ⟨k1 _ (h3 j (by omega)).1, (h3 j (by omega)).2⟩
theorem LoopOk.skip {ss : List StepD} {i : Nat} {l l1 : Nat → Bool} {x k y : Nat} (h : LoopOk ss i l x l1 k) (hy : needAt (nth ss x).needs k = (y : Int)) (hl : l1 y = true) (hi : y ≠ i) : LoopOk ss i l x l1 (k + 1) :=
  h.more hy ⟨fun z hz => hz, hl, fun e => (by cases e), fun _ z hz hn => absurd hz hn⟩ hi
theorem LoopOk.found {ss : List StepD} {i : Nat} {l l1 l2 : Nat → Bool} {x k y : Nat} (h : LoopOk ss i l x l1 k) (he : CheckMath.Edge ss x y) (hl : LeadOk ss i l1 y true l2) : LeadOk ss i l x true l2 :=
  ⟨fun z hz => hl.1 z (h.1 z (upd_le hz)), hl.1 x (h.1 x (upd_at l x)), fun _ => .cons he (hl.2.2.1 rfl), fun e => (by cases e)⟩
theorem LoopOk.here {ss : List StepD} {i : Nat} {l l1 : Nat → Bool} {x k : Nat} (h : LoopOk ss i l x l1 k) (he : CheckMath.Edge ss x i) : LeadOk ss i l x true l1 :=
  ⟨fun z hz => h.1 z (upd_le hz), h.1 x (upd_at l x), fun _ => .one he, fun e => (by cases e)⟩
theorem LoopOk.done {ss : List StepD} {i : Nat} {l l1 : Nat → Bool} {x : Nat} (h : LoopOk ss i l x l1 (nth ss x).needs.length) : LeadOk ss i l x false l1 := by
  obtain ⟨h1, h2, h3⟩ := h
  refine ⟨fun z hz => h1 z (upd_le hz), h1 x (upd_at l x), fun e => (by cases e), fun _ y hy hn z hz => ?_⟩
  by_cases e : upd l x y = true
  · rcases upd_cases e with rfl | e
    · obtain ⟨k, hk, e2⟩ := mem_needAt hz.2.2
      have := h3 k hk
      rw [e2] at this
      simpa using this
    · exact absurd e hn
  · exact h2 y hy e z hz
theorem LoopOk.less {ss : List StepD} {i : Nat} {l l1 : Nat → Bool} {x k m : Nat} (h : LoopOk ss i l x l1 k) (hx : x < 8) (hl : l x = false) (hm : cnt (fun j => l j = false) 8 ≤ m + 1) : cnt (fun j => l1 j = false) 8 ≤ m := by
  have : cnt (fun j => l1 j = false) 8 < cnt (fun j => l j = false) 8 := cnt_lt 8 (fun y _ hy => by
    cases e : l y with
    | false => rfl
    | true =>
      have := h.1 y (upd_le e)
      rw [hy] at this
      cases this) x hx hl (fun e => by have e' : l1 x = false := e; rw [h.1 x (upd_at l x)] at e'; cases e')
  omega

set_option maxHeartbeats 4000000 in
theorem leads_any (w0 : World) (bb sb ib lb : Nat) (v : Value) (ss : List StepD) (i : Nat) (h8 : ss.length ≤ 8) (hN : Needy ss) (hi : i < ss.length) (hD : DRow w0 v ss) : ∀ (m : Nat) (l : Nat → Bool) (x : Nat) (w : World), x < ss.length → l x = false → RingAt w0 bb sb ib lb v i l w → cnt (fun j => l j = false) 8 ≤ m →
    Calls Tryd.prog 84 #[.int .i64 (x : Int), .pointer (some ⟨bb, 0, none⟩), .pointer (some ⟨sb, 0, none⟩), .pointer (some ⟨ib, 0, none⟩), .pointer (some ⟨lb, 0, none⟩)] w fun e w' => ∃ b l', e = .returned (.bool b) ∧ RingAt w0 bb sb ib lb v i l' w' ∧ LeadOk ss i l x b l'
  | 0, l, x, w, hx, hlx, hR, hm => by
    exfalso
    have : 0 < cnt (fun j => l j = false) 8 := Nat.lt_of_le_of_lt (Nat.zero_le (cnt (fun _ => False) 8)) (cnt_lt 8 (fun _ _ h => h.elim) x (by omega) hlx (fun h => h))
    omega
  | m + 1, l, x, w, hx, hlx, hR, hm => by
    have IH : Hid (∀ (l : Nat → Bool) (x : Nat) (w : World), x < ss.length → l x = false → RingAt w0 bb sb ib lb v i l w → cnt (fun j => l j = false) 8 ≤ m →
      Calls Tryd.prog 84 #[.int .i64 (x : Int), .pointer (some ⟨bb, 0, none⟩), .pointer (some ⟨sb, 0, none⟩), .pointer (some ⟨ib, 0, none⟩), .pointer (some ⟨lb, 0, none⟩)] w fun e w' => ∃ b l', e = .returned (.bool b) ∧ RingAt w0 bb sb ib lb v i l' w' ∧ LeadOk ss i l x b l') := leads_any w0 bb sb ib lb v ss i h8 hN hi hD m
    have HLT : Hid (∀ l1 k, LoopOk ss i l x l1 k → cnt (fun j => l1 j = false) 8 ≤ m) := fun l1 k h => h.less (by omega) hlx hm
    have HR0 : Hid (RingAt w0 bb sb ib lb v i (upd l x) (w.setCell ⟨bb, x, none⟩ (.bool true))) := hR.set x
    obtain ⟨ao, cap, hv, hcap, _, hlen, hrow⟩ := hD
    obtain ⟨g, o, hao, hg, hst⟩ := hrow x hx
    have HE : Hid (∀ y : Nat, (y : Int) ∈ (nth ss x).needs → CheckMath.Edge ss x y) := fun y hy => ⟨hx, by have := hN x hx _ hy; omega, hy⟩
    have HNY : Hid (∀ k, k < (nth ss x).needs.length → ∃ y : Nat, needAt (nth ss x).needs k = (y : Int) ∧ y < ss.length ∧ CheckMath.Edge ss x y) := fun k hk => by
      obtain ⟨h0, h1, _⟩ := hN x hx _ (needAt_mem hk)
      refine ⟨(needAt (nth ss x).needs k).toNat, (Int.toNat_of_nonneg h0).symm, by omega, hx, by omega, ?_⟩
      rw [Int.toNat_of_nonneg h0]
      exact needAt_mem hk
    obtain ⟨_, _, _, kv, nv, _, n4, _, n6⟩ := hst
    obtain ⟨na, nc, rfl, hnc, _, hnl, hnr⟩ := n6
    have HNR : Hid (∀ j, j < (nth ss x).needs.length → ∃ g o, na = some ⟨g, o, none⟩ ∧ g < w0.heap.size ∧ w0.cell? ⟨g, o + j, none⟩ = some (.int .i64 (needAt (nth ss x).needs j))) := hnr
    obtain ⟨c0, f0⟩ := hR.been x (by omega)
    have HV : Hid (∀ l1 wq, RingAt w0 bb sb ib lb v i l1 wq → wq.cell? ⟨sb, 0, none⟩ = some (.slice (some ⟨g, o, none⟩) ss.length cap) ∧ wq.cell? ⟨ib, 0, none⟩ = some (.int .i64 (i : Int)) ∧ wq.cell? ⟨lb, 0, none⟩ = some (leadV bb sb ib lb) ∧ wq.cell? ⟨g, o + x * 5 + 4, none⟩ = some (.slice na (nth ss x).needs.length nc)) := fun l1 wq h =>
      ⟨by rw [h.st, hv, hao], h.ii, h.lf, (h.bel.cell (p := ⟨g, o + x * 5 + 4, none⟩) hg).trans n4⟩
    obtain ⟨s1, s2, s3, s4⟩ := HV.out _ _ HR0.out
    have hxl : (x : Int) < 8 := by omega
    clear hR hrow hnr hN n4 hm
    go_enter Tryd.func84, Tryd.ntmps84
    go_wp2
    clear s1 s2 s3 s4 c0 f0
    go_loopw [8, 17] (fun _ k wr => ∃ (n : Nat) (l1 : Nat → Bool), n ≤ (nth ss x).needs.length ∧ k = .int .i64 (n : Int) ∧ Hid (RingAt w0 bb sb ib lb v i l1 wr) ∧ Hid (LoopOk ss i l x l1 n)) (fun _ k _ => (nth ss x).needs.length - (intOf k).toNat)
    case atStart => exact ⟨0, upd l x, Nat.zero_le _, rfl, HR0, LoopOk.start ss i l x⟩
    case round =>
      obtain ⟨n, l1, hn, rfl, HR, HL⟩ := hrel
      obtain ⟨s1, s2, s3, s4⟩ := HV.out _ _ HR.out
      by_cases hlt : n < (nth ss x).needs.length
      · obtain ⟨y, hy, hyl, hed⟩ := HNY.out n hlt
        obtain ⟨g2, o2, rfl, hg2, d0⟩ := HNR.out n hlt
        rw [hy] at d0
        have d1 : wr.cell? ⟨g2, o2 + n, none⟩ = some (.int .i64 (y : Int)) := (HR.out.bel.cell (p := ⟨g2, o2 + n, none⟩) hg2).trans d0
        obtain ⟨b1, _⟩ := HR.out.been y (by omega)
        have HY : Hid (needAt (nth ss x).needs n = (y : Int)) := hy
        have HED : Hid (CheckMath.Edge ss x y) := hed
        have hy8 : (y : Int) < 8 := by omega
        clear d0 hy hed HNR HNY HV HR0
        by_cases hyi : y = i
        · have hyi' : ((y : Int) == (i : Int)) = true := by rw [hyi]; exact beq_self_eq_true _
          have HF : Hid (LeadOk ss i l x true l1) := HL.out.here (by rw [← hyi]; exact HED.out)
          clear hyi HED IH HLT
          go_wp2
          go_ret
          exact ⟨true, l1, rfl, HR.out, HF.out⟩
        · have hyi' : ((y : Int) == (i : Int)) = false := by simp; omega
          by_cases hb : l1 y = true
          · have HL2 : Hid (LoopOk ss i l x l1 (n + 1)) := HL.out.skip HY.out hb hyi
            rw [hb] at b1
            clear hyi HED IH HLT HL
            go_wp2
            exact ⟨⟨n + 1, l1, by omega, by go_num, HR, HL2⟩, by simp [intOf]; omega⟩
          · have hb' : l1 y = false := by simpa using hb
            have C : Hid (Calls Tryd.prog 84 #[.int .i64 (y : Int), .pointer (some ⟨bb, 0, none⟩), .pointer (some ⟨sb, 0, none⟩), .pointer (some ⟨ib, 0, none⟩), .pointer (some ⟨lb, 0, none⟩)] wr fun e w' => ∃ b l', e = .returned (.bool b) ∧ RingAt w0 bb sb ib lb v i l' w' ∧ LeadOk ss i l1 y b l') := IH.out l1 y wr hyl hb' HR.out (HLT.out l1 n HL.out)
            have HYI : Hid (¬ y = i) := hyi
            rw [hb'] at b1
            unfold leadV at s3
            clear hyi IH HLT hb hb'
            go_wp2_with fail
            refine C.out.mono ?_
            rintro e w1 ⟨b, l2, rfl, hr2, hl2⟩
            have HR2 : Hid (RingAt w0 bb sb ib lb v i l2 w1) := hr2
            cases b with
            | true =>
              have HF : Hid (LeadOk ss i l x true l2) := HL.out.found HED.out hl2
              clear C hr2 hl2 s1 s2 s3 s4 b1 d1
              go_wp2
              go_ret
              exact ⟨true, l2, rfl, HR2.out, HF.out⟩
            | false =>
              have HL2 : Hid (LoopOk ss i l x l2 (n + 1)) := HL.out.more HY.out hl2 HYI.out
              clear C hr2 hl2 s1 s2 s3 s4 b1 d1
              go_wp2
              exact ⟨⟨n + 1, l2, by omega, by go_num, HR2, HL2⟩, by simp [intOf]; omega⟩
      · obtain rfl : n = (nth ss x).needs.length := by omega
        have HF : Hid (LeadOk ss i l x false l1) := HL.out.done
        clear HL IH HLT HNR HNY HV
        go_wp2
        go_ret
        exact ⟨false, l1, rfl, HR.out, HF.out⟩

theorem ring_start (w : World) (v : Value) (i : Nat) : RingAt w (w.heap.size + 1 + 1) w.heap.size (w.heap.size + 1) (w.heap.size + 1 + 1 + 1) v i (fun _ => false)
    ((((w.alloc (.cells #[v] 22)).alloc (.cells #[.int .i64 (i : Int)] 3)).alloc (.cells #[.bool false, .bool false, .bool false, .bool false, .bool false, .bool false, .bool false, .bool false] 56)).alloc
      (.cells #[.func (.func 84) #[] #[.pointer (some ⟨w.heap.size + 1 + 1, 0, none⟩), .pointer (some ⟨w.heap.size, 0, none⟩), .pointer (some ⟨w.heap.size + 1, 0, none⟩), .pointer (some ⟨w.heap.size + 1 + 1 + 1, 0, none⟩)]] 52)) := by
  have s1 : (w.alloc (.cells #[v] 22)).heap.size = w.heap.size + 1 := by simp
  generalize hw1 : w.alloc (.cells #[v] 22) = w1 at *
  have s2 : (w1.alloc (.cells #[.int .i64 (i : Int)] 3)).heap.size = w.heap.size + 1 + 1 := by simp [s1]
  generalize hw2 : w1.alloc (.cells #[.int .i64 (i : Int)] 3) = w2 at *
  have s3 : (w2.alloc (.cells #[.bool false, .bool false, .bool false, .bool false, .bool false, .bool false, .bool false, .bool false] 56)).heap.size = w.heap.size + 1 + 1 + 1 := by simp [s2]
  generalize hw3 : w2.alloc (.cells #[.bool false, .bool false, .bool false, .bool false, .bool false, .bool false, .bool false, .bool false] 56) = w3 at *
  have b1 : Below w.heap.size w w1 := by rw [← hw1]; exact (Below.refl _ w).alloc (Nat.le_refl _) _
  have b2 : Below w.heap.size w w2 := by rw [← hw2]; exact b1.alloc (by omega) _
  have b3 : Below w.heap.size w w3 := by rw [← hw3]; exact b2.alloc (by omega) _
  refine ⟨b3.alloc (by omega) _, ⟨by omega, by simp [s3]⟩, fun j hj => ?_, ?_, ?_, ?_, by omega, by omega, by omega⟩
  · rw [World.cell?_alloc_past _ _ _ (by omega), World.frozen?_alloc_past _ _ _ (by omega), ← hw3, World.cell?_alloc_at _ _ _ _ (by omega), World.frozen?_alloc_at _ _ _ _ (by omega)]
    have : j = 0 ∨ j = 1 ∨ j = 2 ∨ j = 3 ∨ j = 4 ∨ j = 5 ∨ j = 6 ∨ j = 7 := by omega
    rcases this with rfl | rfl | rfl | rfl | rfl | rfl | rfl | rfl <;> exact ⟨rfl, rfl⟩
  · rw [World.cell?_alloc_past _ _ _ (by omega), ← hw3, World.cell?_alloc_past _ _ _ (by omega), ← hw2, World.cell?_alloc_past _ _ _ (by omega), ← hw1, World.cell?_alloc_at _ _ _ _ (by omega)]; rfl
  · rw [World.cell?_alloc_past _ _ _ (by omega), ← hw3, World.cell?_alloc_past _ _ _ (by omega), ← hw2, World.cell?_alloc_at _ _ _ _ (by omega)]; rfl
  · rw [World.cell?_alloc_at _ _ _ _ (by omega)]; rfl

set_option maxHeartbeats 2000000 in
theorem inRing_any (v : Value) (ss : List StepD) (h8 : ss.length ≤ 8) (hN : Needy ss) (i : Nat) (hi : i < ss.length) (w : World) (h : DRow w v ss) :
    Calls Tryd.prog 77 #[v, .int .i64 (i : Int)] w fun e w' => e = .returned (.bool (tt (Ring ss i))) ∧ Below w.heap.size w w' := by
  have HC : Hid (∀ wq, RingAt w (w.heap.size + 1 + 1) w.heap.size (w.heap.size + 1) (w.heap.size + 1 + 1 + 1) v i (fun _ => false) wq → Calls Tryd.prog 84 #[.int .i64 (i : Int), .pointer (some ⟨w.heap.size + 1 + 1, 0, none⟩), .pointer (some ⟨w.heap.size, 0, none⟩), .pointer (some ⟨w.heap.size + 1, 0, none⟩), .pointer (some ⟨w.heap.size + 1 + 1 + 1, 0, none⟩)] wq fun e w' => e = .returned (.bool (tt (Ring ss i))) ∧ Below w.heap.size w w') := fun wq hq => by
    refine (leads_any w _ _ _ _ v ss i h8 hN hi h 8 (fun _ => false) i wq hi rfl hq (cnt_le _ _)).mono ?_
    rintro e w' ⟨b, l', rfl, hr, h1, h2, h3, h4⟩
    refine ⟨?_, hr.bel⟩
    cases b with
    | true => rw [show tt (Ring ss i) = true from tt_yes (h3 rfl)]
    | false => rw [show tt (Ring ss i) = false from tt_no (no_ring (V := fun y => l' y = true) h2 (fun x hx y hy => h4 rfl x hx (by simp) y hy))]
  obtain ⟨ao, cap, rfl, _⟩ := h.slice
  have hmf : ∀ (fn : Fn) (first cap : Array Value) (w : World), (Instr.makeFunc fn first cap).run Tryd.prog w = .ok (.func fn first cap) w := fun _ _ _ _ => rfl
  clear h
  go_enter Tryd.func77, Tryd.ntmps77
  go_wp2_with fail
  refine (HC.out _ (ring_start w _ i)).mono ?_
  rintro e w1 ⟨rfl, hb1⟩
  go_wp2
  go_ret
  exact ⟨rfl, hb1⟩
end Go.Proofs.YtmjnllldjeeigaaDoor

/- The walks of first, faultAmong, faultOf and Check, in package check. -/
set_option linter.unusedVariables false
set_option maxRecDepth 100000
namespace Go.Proofs.YtmjnllldjeeigaaDoor
open Go.RowKit CheckMath
open Go.Proofs.YtmjnllldjeeigaaDoor.Nm

set_option maxHeartbeats 2000000 in
theorem first_any (f : Nat) (hf : f = 75 ∨ f = 76 ∨ f = 77 ∨ f = 78) (P : Nat → Prop) (v : Value) (ss : List StepD) (w : World) (h : DRow w v ss)
    (hc : ∀ (i : Nat) (wq : World), i < ss.length → DRow wq v ss → Calls Tryd.prog f #[v, .int .i64 (i : Int)] wq fun e w' => e = .returned (.bool (tt (P i))) ∧ Below wq.heap.size wq w') :
    Calls Tryd.prog 74 #[v, .func (.func f) #[] #[]] w fun e w' => e = .returned (.int .i64 (firstI P ss.length)) ∧ Below w.heap.size w w' := by
  have HD : Hid (DRow w v ss) := h
  have HC : Hid (∀ (i : Nat) (wq : World), i < ss.length → DRow wq v ss → Calls Tryd.prog f #[v, .int .i64 (i : Int)] wq fun e w' => e = .returned (.bool (tt (P i))) ∧ Below wq.heap.size wq w') := hc
  obtain ⟨ao, cap, rfl, hcap, hn0, hlen, hrow⟩ := h
  clear hrow hn0 hc
  rcases hf with rfl | rfl | rfl | rfl
  all_goals (
    go_enter Tryd.func74, Tryd.ntmps74
    go_wp2
    go_loopw [5, 8] (fun _ i wr => ∃ k : Nat, k ≤ ss.length ∧ i = .int .i64 (k : Int) ∧ Hid (Below w.heap.size w wr) ∧ Hid (firstI P ss.length = firstF P k (ss.length - k))) (fun _ i _ => ss.length - (intOf i).toNat)
    case atStart => exact ⟨0, Nat.zero_le _, rfl, Below.refl _ _, rfl⟩
    case round =>
      obtain ⟨k, hk, rfl, HB, HN⟩ := hrel
      by_cases hlt : k < ss.length
      · have C : Hid (Calls Tryd.prog _ #[.slice ao ss.length cap, .int .i64 (k : Int)] wr fun e w' => e = .returned (.bool (tt (P k))) ∧ Below wr.heap.size wr w') := HC.out k wr hlt (HD.out.below HB.out)
        rw [show ss.length - k = (ss.length - (k + 1)) + 1 by omega, firstF] at HN
        by_cases hq : P k
        · rw [tt_yes hq] at C HN
          simp only [if_true] at HN
          clear hq
          go_wp2_with fail
          refine C.out.mono ?_
          rintro e w1 ⟨rfl, hb1⟩
          have HB1 : Hid (Below w.heap.size w w1) := HB.out.trans (hb1.mono HB.out.size)
          clear C hb1 HB
          go_wp2
          go_ret
          rw [HN.out]
          exact ⟨rfl, HB1.out⟩
        · rw [tt_no hq] at C HN
          simp only [Bool.false_eq_true, if_false] at HN
          clear hq
          go_wp2_with fail
          refine C.out.mono ?_
          rintro e w1 ⟨rfl, hb1⟩
          have HB1 : Hid (Below w.heap.size w w1) := HB.out.trans (hb1.mono HB.out.size)
          clear C hb1 HB
          go_wp2
          exact ⟨⟨k + 1, by omega, by go_num, HB1, HN⟩, by simp [intOf]; omega⟩
      · obtain rfl : k = ss.length := by omega
        have HE : Hid (firstI P ss.length = -1) := by rw [HN.out, Nat.sub_self]; rfl
        clear HN
        go_wp2
        go_ret
        rw [HE.out]
        exact ⟨rfl, HB.out⟩)

set_option maxHeartbeats 4000000 in
theorem faultAmong_any (v : Value) (ss : List StepD) (h8 : ss.length ≤ 8) (hN : Needy ss) (w : World) (h : DRow w v ss) :
    Calls Tryd.prog 63 #[v] w fun e w' => e = .returned (.tuple #[.int .i64 (amongM ss).1, .int .i64 (amongM ss).2]) ∧ Below w.heap.size w w' := by
  have C1 : Hid (∀ wq, Below w.heap.size w wq → Calls Tryd.prog 74 #[v, .func (.func 75) #[] #[]] wq fun e w' => e = .returned (.int .i64 (firstI (PivotAgain ss) ss.length)) ∧ Below w.heap.size w w') := fun wq hq =>
    (first_any _ (by simp) _ v ss wq (h.below hq) (fun i w1 hi hd => pivotAgain_any v ss i hi w1 hd)).mono (fun e w' ⟨he, hb⟩ => ⟨he, hq.trans (hb.mono hq.size)⟩)
  have C2 : Hid (∀ wq, Below w.heap.size w wq → Calls Tryd.prog 74 #[v, .func (.func 76) #[] #[]] wq fun e w' => e = .returned (.int .i64 (firstI (OutOfOrder ss) ss.length)) ∧ Below w.heap.size w w') := fun wq hq =>
    (first_any _ (by simp) _ v ss wq (h.below hq) (fun i w1 hi hd => outOfOrder_any v ss hN i hi w1 hd)).mono (fun e w' ⟨he, hb⟩ => ⟨he, hq.trans (hb.mono hq.size)⟩)
  have C3 : Hid (∀ wq, Below w.heap.size w wq → Calls Tryd.prog 74 #[v, .func (.func 77) #[] #[]] wq fun e w' => e = .returned (.int .i64 (firstI (Ring ss) ss.length)) ∧ Below w.heap.size w w') := fun wq hq =>
    (first_any _ (by simp) _ v ss wq (h.below hq) (fun i w1 hi hd => inRing_any v ss h8 hN i hi w1 hd)).mono (fun e w' ⟨he, hb⟩ => ⟨he, hq.trans (hb.mono hq.size)⟩)
  have C4 : Hid (∀ wq, Below w.heap.size w wq → Calls Tryd.prog 74 #[v, .func (.func 78) #[] #[]] wq fun e w' => e = .returned (.int .i64 (firstI (KeyUntaken ss) ss.length)) ∧ Below w.heap.size w w') := fun wq hq =>
    (first_any _ (by simp) _ v ss wq (h.below hq) (fun i w1 hi hd => keyUntaken_any v ss i hi w1 hd)).mono (fun e w' ⟨he, hb⟩ => ⟨he, hq.trans (hb.mono hq.size)⟩)
  obtain ⟨ao, cap, rfl, _⟩ := h.slice
  unfold amongM
  clear h hN
  generalize firstI (PivotAgain ss) ss.length = r1 at *
  generalize firstI (OutOfOrder ss) ss.length = r2 at *
  generalize firstI (Ring ss) ss.length = r3 at *
  generalize firstI (KeyUntaken ss) ss.length = r4 at *
  by_cases h1 : r1 = -1
  case neg =>
    rw [if_pos h1]
    have h1' : (r1 != (-1 : Int)) = true := by simpa using h1
    clear h1
    go_enter Tryd.func63, Tryd.ntmps63
    go_wp2_with fail
    refine (C1.out _ (Below.refl _ _)).mono ?_
    rintro e w1 ⟨rfl, hb1⟩
    go_wp2_with fail
    go_ret2
    exact ⟨rfl, hb1⟩
  rw [if_neg (by simpa using h1)]
  have h1' : (r1 != (-1 : Int)) = false := by simpa using h1
  clear h1
  by_cases h2 : r2 = -1
  case neg =>
    rw [if_pos h2]
    have h2' : (r2 != (-1 : Int)) = true := by simpa using h2
    clear h2
    go_enter Tryd.func63, Tryd.ntmps63
    go_wp2_with fail
    refine (C1.out _ (Below.refl _ _)).mono ?_
    rintro e w1 ⟨rfl, hb1⟩
    go_wp2_with fail
    refine (C2.out _ hb1).mono ?_
    rintro e w2 ⟨rfl, hb2⟩
    go_wp2_with fail
    go_ret2
    exact ⟨rfl, hb2⟩
  rw [if_neg (by simpa using h2)]
  have h2' : (r2 != (-1 : Int)) = false := by simpa using h2
  clear h2
  by_cases h3 : r3 = -1
  case neg =>
    rw [if_pos h3]
    have h3' : (r3 != (-1 : Int)) = true := by simpa using h3
    clear h3
    go_enter Tryd.func63, Tryd.ntmps63
    go_wp2_with fail
    refine (C1.out _ (Below.refl _ _)).mono ?_
    rintro e w1 ⟨rfl, hb1⟩
    go_wp2_with fail
    refine (C2.out _ hb1).mono ?_
    rintro e w2 ⟨rfl, hb2⟩
    go_wp2_with fail
    refine (C3.out _ hb2).mono ?_
    rintro e w3 ⟨rfl, hb3⟩
    go_wp2_with fail
    go_ret2
    exact ⟨rfl, hb3⟩
  rw [if_neg (by simpa using h3)]
  have h3' : (r3 != (-1 : Int)) = false := by simpa using h3
  clear h3
  by_cases h4 : r4 = -1
  case neg =>
    rw [if_pos h4]
    have h4' : (r4 != (-1 : Int)) = true := by simpa using h4
    clear h4
    go_enter Tryd.func63, Tryd.ntmps63
    go_wp2_with fail
    refine (C1.out _ (Below.refl _ _)).mono ?_
    rintro e w1 ⟨rfl, hb1⟩
    go_wp2_with fail
    refine (C2.out _ hb1).mono ?_
    rintro e w2 ⟨rfl, hb2⟩
    go_wp2_with fail
    refine (C3.out _ hb2).mono ?_
    rintro e w3 ⟨rfl, hb3⟩
    go_wp2_with fail
    refine (C4.out _ hb3).mono ?_
    rintro e w4 ⟨rfl, hb4⟩
    go_wp2_with fail
    go_ret2
    exact ⟨rfl, hb4⟩
  rw [if_neg (by simpa using h4)]
  have h4' : (r4 != (-1 : Int)) = false := by simpa using h4
  clear h4
  go_enter Tryd.func63, Tryd.ntmps63
  go_wp2_with fail
  refine (C1.out _ (Below.refl _ _)).mono ?_
  rintro e w1 ⟨rfl, hb1⟩
  go_wp2_with fail
  refine (C2.out _ hb1).mono ?_
  rintro e w2 ⟨rfl, hb2⟩
  go_wp2_with fail
  refine (C3.out _ hb2).mono ?_
  rintro e w3 ⟨rfl, hb3⟩
  go_wp2_with fail
  refine (C4.out _ hb3).mono ?_
  rintro e w4 ⟨rfl, hb4⟩
  go_wp2_with fail
  go_ret2
  exact ⟨rfl, hb4⟩

def faultM (b1 b2 : Bool) (kd pt : Int) (b3 b4 : Bool) : Int := if b1 = false then 110 else if b2 = true then 112 else if kd < 1 ∨ kd > 3 then 113 else if pt < 0 ∨ pt ≥ 4 then 114 else if b3 = false then 115 else if b4 = false then 116 else 0
noncomputable def topM (b : Bool) (ss : List StepD) : Int × Int := if b = false then (-1, 110) else if ss.length = 0 ∨ 8 < ss.length then (-1, 111) else stepsF ss 0 ss.length
set_option maxHeartbeats 8000000 in
theorem faultOf_any (v : Value) (ss : List StepD) (i : Nat) (hi : i < ss.length) (w : World) (h : DRow w v ss) (hT : Tabs w) :
    Calls Tryd.prog 62 #[v, .int .i64 (i : Int)] w fun e w' => e = .returned (.int .i64 (stepFault ss i)) ∧ Below w.heap.size w w' := by
  have HD : Hid (DRow w v ss) := h
  have HT : Hid (Tabs w) := hT
  obtain ⟨ao, cap, rfl, hcap, _, hlen, hrow⟩ := h
  obtain ⟨g, o, rfl, hg, c0, c1, c2, kv, nv, c3, c4, c5, c6⟩ := hrow i hi
  obtain ⟨ka, kc, hkv⟩ := c5.slice
  obtain ⟨na, nc, hnv⟩ := c6.slice
  subst hkv hnv
  have HK : Hid (KRow w (.slice ka (nth ss i).keys.length kc) (nth ss i).keys) := c5
  have HNE : Hid (IRow w (.slice na (nth ss i).needs.length nc) (nth ss i).needs) := c6
  clear hrow c5 c6 hT
  have HW : Hid (∀ wq, Below (w.alloc (.cells #[.string (nth ss i).name, .int .i64 (nth ss i).kind, .int .i64 (nth ss i).part, .slice ka (nth ss i).keys.length kc, .slice na (nth ss i).needs.length nc] 42)).heap.size (w.alloc (.cells #[.string (nth ss i).name, .int .i64 (nth ss i).kind, .int .i64 (nth ss i).part, .slice ka (nth ss i).keys.length kc, .slice na (nth ss i).needs.length nc] 42)) wq →
      Below w.heap.size w wq ∧ wq.cell? ⟨w.heap.size, 0, none⟩ = some (.string (nth ss i).name) ∧ wq.cell? ⟨w.heap.size, 1, none⟩ = some (.int .i64 (nth ss i).kind) ∧ wq.cell? ⟨w.heap.size, 2, none⟩ = some (.int .i64 (nth ss i).part) ∧ wq.cell? ⟨w.heap.size, 3, none⟩ = some (.slice ka (nth ss i).keys.length kc) ∧ wq.cell? ⟨w.heap.size, 4, none⟩ = some (.slice na (nth ss i).needs.length nc)) := fun wq hb => by
    have h1 : Below w.heap.size w (w.alloc (.cells #[.string (nth ss i).name, .int .i64 (nth ss i).kind, .int .i64 (nth ss i).part, .slice ka (nth ss i).keys.length kc, .slice na (nth ss i).needs.length nc] 42)) := (Below.refl _ _).alloc (Nat.le_refl _) _
    refine ⟨h1.trans (hb.mono h1.size), ?_, ?_, ?_, ?_, ?_⟩
    · rw [hb.cell (p := ⟨w.heap.size, 0, none⟩) (by simp), World.cell?_alloc_new]; rfl
    · rw [hb.cell (p := ⟨w.heap.size, 1, none⟩) (by simp), World.cell?_alloc_new]; rfl
    · rw [hb.cell (p := ⟨w.heap.size, 2, none⟩) (by simp), World.cell?_alloc_new]; rfl
    · rw [hb.cell (p := ⟨w.heap.size, 3, none⟩) (by simp), World.cell?_alloc_new]; rfl
    · rw [hb.cell (p := ⟨w.heap.size, 4, none⟩) (by simp), World.cell?_alloc_new]; rfl
  have HF : Hid (stepFault ss i = faultM (isN (nth ss i).name) (tt (Twice ss i)) (nth ss i).kind (nth ss i).part (tt (KeysOk (nth ss i))) (tt (NeedsOk (nth ss i).needs i ss.length))) := rfl
  generalize stepFault ss i = sf at *
  go_enter Tryd.func62, Tryd.ntmps62
  go_wp2_with fail
  clear c0 c1 c2 c3 c4
  have C1 : Hid (∀ wq, Calls Tryd.prog 61 #[.string (nth ss i).name] wq fun e w1 => e = .returned (.bool (isN (nth ss i).name)) ∧ Below wq.heap.size wq w1) := fun wq => is_any _ wq
  have C2 : Hid (∀ wq, Below w.heap.size w wq → Calls Tryd.prog 71 #[.slice (some ⟨g, o, none⟩) ss.length cap, .int .i64 (i : Int)] wq fun e w1 => e = .returned (.bool (tt (Twice ss i))) ∧ Below wq.heap.size wq w1) := fun wq hq => nameAhead_any _ ss i hi wq (HD.out.below hq)
  have C3 : Hid (∀ wq, Below w.heap.size w wq → Calls Tryd.prog 72 #[.agg #[.string (nth ss i).name, .int .i64 (nth ss i).kind, .int .i64 (nth ss i).part, .slice ka (nth ss i).keys.length kc, .slice na (nth ss i).needs.length nc]] wq fun e w1 => e = .returned (.bool (tt (KeysOk (nth ss i)))) ∧ Below wq.heap.size wq w1) := fun wq hq => keysMayBe_any _ _ _ wq (HK.out.below hq) ⟨_, _, _, rfl⟩ (Utf8Tabs_below HT.out hq)
  have C4 : Hid (∀ wq, Below w.heap.size w wq → Calls Tryd.prog 73 #[.slice na (nth ss i).needs.length nc, .int .i64 (i : Int), .int .i64 (ss.length : Int)] wq fun e w1 => e = .returned (.bool (tt (NeedsOk (nth ss i).needs i ss.length))) ∧ Below wq.heap.size wq w1) := fun wq hq => needsMayBe_any _ _ i ss.length wq (HNE.out.below hq) hlen (by omega)
  clear HD HT HK HNE
  have HB0 := Below.refl (w.alloc (.cells #[.string (nth ss i).name, .int .i64 (nth ss i).kind, .int .i64 (nth ss i).part, .slice ka (nth ss i).keys.length kc, .slice na (nth ss i).needs.length nc] 42)).heap.size (w.alloc (.cells #[.string (nth ss i).name, .int .i64 (nth ss i).kind, .int .i64 (nth ss i).part, .slice ka (nth ss i).keys.length kc, .slice na (nth ss i).needs.length nc] 42))
  generalize (w.alloc (.cells #[.string (nth ss i).name, .int .i64 (nth ss i).kind, .int .i64 (nth ss i).part, .slice ka (nth ss i).keys.length kc, .slice na (nth ss i).needs.length nc] 42)) = w0 at *
  generalize isN (nth ss i).name = b1 at *
  generalize tt (Twice ss i) = b2 at *
  generalize tt (KeysOk (nth ss i)) = b3 at *
  generalize tt (NeedsOk (nth ss i).needs i ss.length) = b4 at *
  generalize (nth ss i).kind = kd at *
  generalize (nth ss i).part = pt at *
  refine (C1.out _).mono ?_
  rintro e w1 ⟨rfl, hb1⟩
  have HB1 : Hid (Below w0.heap.size w0 w1) := hb1
  clear HB0 hb1
  obtain ⟨k1, p0, p1, p2, p3, p4⟩ := HW.out _ HB1.out
  have HK1 : Hid (Below w.heap.size w w1) := k1
  clear k1
  cases b1 with
  | false =>
    go_wp2_with fail
    go_ret
    exact ⟨by rw [HF.out]; exact ret_int (by unfold faultM; rw [if_pos rfl]), HK1.out⟩
  | true =>
    go_wp2_with fail
    refine (C2.out _ HK1.out).mono ?_
    rintro e w2 ⟨rfl, hb2⟩
    have HB2 : Hid (Below w0.heap.size w0 w2) := HB1.out.trans (hb2.mono HB1.out.size)
    clear hb2 p0 p1 p2 p3 p4
    obtain ⟨k2, p0, p1, p2, p3, p4⟩ := HW.out _ HB2.out
    have HK2 : Hid (Below w.heap.size w w2) := k2
    clear k2
    cases b2 with
    | true =>
      go_wp2_with fail
      go_ret
      exact ⟨by rw [HF.out]; exact ret_int (by unfold faultM; rw [if_neg (by simp), if_pos rfl]), HK2.out⟩
    | false =>
      by_cases h3 : kd < 1
      · go_wp2_with fail
        go_ret
        exact ⟨by rw [HF.out]; exact ret_int (by unfold faultM; rw [if_neg (by simp), if_neg (by simp), if_pos (Or.inl h3)]), HK2.out⟩
      by_cases h4 : 3 < kd
      · go_wp2_with fail
        go_ret
        exact ⟨by rw [HF.out]; exact ret_int (by unfold faultM; rw [if_neg (by simp), if_neg (by simp), if_pos (Or.inr h4)]), HK2.out⟩
      by_cases h5 : pt < 0
      · go_wp2_with fail
        go_ret
        exact ⟨by rw [HF.out]; exact ret_int (by unfold faultM; rw [if_neg (by simp), if_neg (by simp), if_neg (by omega), if_pos (Or.inl h5)]), HK2.out⟩
      by_cases h6 : 4 ≤ pt
      · go_wp2_with fail
        go_ret
        exact ⟨by rw [HF.out]; exact ret_int (by unfold faultM; rw [if_neg (by simp), if_neg (by simp), if_neg (by omega), if_pos (Or.inr h6)]), HK2.out⟩
      go_wp2_with fail
      refine (C3.out _ HK2.out).mono ?_
      rintro e w3 ⟨rfl, hb3⟩
      have HB3 : Hid (Below w0.heap.size w0 w3) := HB2.out.trans (hb3.mono HB2.out.size)
      clear hb3 p0 p1 p2 p3 p4
      obtain ⟨k3, p0, p1, p2, p3, p4⟩ := HW.out _ HB3.out
      have HK3 : Hid (Below w.heap.size w w3) := k3
      clear k3
      cases b3 with
      | false =>
        go_wp2_with fail
        go_ret
        exact ⟨by rw [HF.out]; exact ret_int (by unfold faultM; rw [if_neg (by simp), if_neg (by simp), if_neg (by omega), if_neg (by omega), if_pos rfl]), HK3.out⟩
      | true =>
        go_wp2_with fail
        refine (C4.out _ HK3.out).mono ?_
        rintro e w4 ⟨rfl, hb4⟩
        have HK4 : Hid (Below w.heap.size w w4) := HK3.out.trans (hb4.mono HK3.out.size)
        clear hb4 p0 p1 p2 p3 p4
        cases b4 with
        | false =>
          go_wp2_with fail
          go_ret
          exact ⟨by rw [HF.out]; exact ret_int (by unfold faultM; rw [if_neg (by simp), if_neg (by simp), if_neg (by omega), if_neg (by omega), if_neg (by simp), if_pos rfl]), HK4.out⟩
        | true =>
          go_wp2_with fail
          go_ret
          exact ⟨by rw [HF.out]; exact ret_int (by unfold faultM; rw [if_neg (by simp), if_neg (by simp), if_neg (by omega), if_neg (by omega), if_neg (by simp), if_neg (by simp)]), HK4.out⟩

theorem stepsF_stop {ss : List StepD} {k n : Nat} (h : ¬ stepFault ss k = 0) : stepsF ss k (n + 1) = ((k : Int), stepFault ss k) := by rw [stepsF, if_neg h]
theorem stepsF_go {ss : List StepD} {k n : Nat} (h : stepFault ss k = 0) : stepsF ss k (n + 1) = stepsF ss (k + 1) n := by rw [stepsF, if_pos h]
set_option maxHeartbeats 4000000 in
theorem check_any (v : Value) (D : DefD) (w : World) (h : DefIn w v D) (hT : Tabs w) :
    Calls Tryd.prog 42 #[v] w fun e w' => e = .returned (.tuple #[.int .i64 (checkM D).1, .int .i64 (checkM D).2]) ∧ Below w.heap.size w w' := by
  obtain ⟨sv, rfl, hd⟩ := h
  have HD : Hid (DRow w sv D.steps) := hd
  have HT : Hid (Tabs w) := hT
  obtain ⟨ao, cap, rfl, hcap, _, hlen, _⟩ := hd
  have HW : Hid (∀ wq, Below (w.alloc (.cells #[.string D.name, .slice ao D.steps.length cap] 24)).heap.size (w.alloc (.cells #[.string D.name, .slice ao D.steps.length cap] 24)) wq →
      Below w.heap.size w wq ∧ wq.cell? ⟨w.heap.size, 1, none⟩ = some (.slice ao D.steps.length cap)) := fun wq hb => by
    have h1 : Below w.heap.size w (w.alloc (.cells #[.string D.name, .slice ao D.steps.length cap] 24)) := (Below.refl _ _).alloc (Nat.le_refl _) _
    refine ⟨h1.trans (hb.mono h1.size), ?_⟩
    rw [hb.cell (p := ⟨w.heap.size, 1, none⟩) (by simp), World.cell?_alloc_new]; rfl
  have C1 : Hid (∀ wq, Calls Tryd.prog 61 #[.string D.name] wq fun e w1 => e = .returned (.bool (isN D.name)) ∧ Below wq.heap.size wq w1) := fun wq => is_any _ wq
  have HM : Hid (checkM D = topM (isN D.name) D.steps) := rfl
  clear hT
  generalize checkM D = cm at *
  generalize hm1 : cm.1 = m1
  generalize hm2 : cm.2 = m2
  have HM1 : Hid (cm.1 = m1) := hm1
  have HM2 : Hid (cm.2 = m2) := hm2
  clear hm1 hm2
  have HB0 := Below.refl (w.alloc (.cells #[.string D.name, .slice ao D.steps.length cap] 24)).heap.size (w.alloc (.cells #[.string D.name, .slice ao D.steps.length cap] 24))
  go_enter Tryd.func42, Tryd.ntmps42
  go_wp2_with fail
  generalize (w.alloc (.cells #[.string D.name, .slice ao D.steps.length cap] 24)) = w0 at *
  refine (C1.out _).mono ?_
  rintro e w1 ⟨rfl, hb1⟩
  have HB1 : Hid (Below w0.heap.size w0 w1) := hb1
  clear HB0 hb1
  obtain ⟨k1, p1⟩ := HW.out _ HB1.out
  have HK1 : Hid (Below w.heap.size w w1) := k1
  clear k1 C1
  generalize isN D.name = b1 at *
  cases b1 with
  | false =>
    go_wp2_with fail
    go_ret2
    refine ⟨?_, HK1.out⟩
    rw [← HM1.out, ← HM2.out, HM.out, show topM false D.steps = (-1, 110) by unfold topM; rw [if_pos rfl]]
    rfl
  | true =>
    by_cases h0 : D.steps.length = 0
    · have h0' : ((D.steps.length : Int) == 0) = true := by simp [h0]
      have HZ : Hid (D.steps.length = 0 ∨ 8 < D.steps.length) := Or.inl h0
      clear h0
      go_wp2_with fail
      go_ret2
      refine ⟨?_, HK1.out⟩
      rw [← HM1.out, ← HM2.out, HM.out, show topM true D.steps = (-1, 111) by unfold topM; rw [if_neg (by simp), if_pos HZ.out]]
      rfl
    have h0' : ((D.steps.length : Int) == 0) = false := beq_eq_false_iff_ne.2 (by omega)
    by_cases h8 : 8 < D.steps.length
    · have h8' : (8 : Int) < (D.steps.length : Int) := by omega
      go_wp2_with fail
      go_ret2
      refine ⟨?_, HK1.out⟩
      rw [← HM1.out, ← HM2.out, HM.out, show topM true D.steps = (-1, 111) by unfold topM; rw [if_neg (by simp), if_pos (Or.inr h8)]]
      rfl
    have h8' : ¬ (8 : Int) < (D.steps.length : Int) := by omega
    have HMM : Hid (cm = stepsF D.steps 0 D.steps.length) := by show cm = _; rw [HM.out]; unfold topM; rw [if_neg (by simp), if_neg (by omega)]
    clear HM h0
    go_wp2_with fail
    clear p1
    go_loopw [4, 5, 23] (fun _ _ k wr => ∃ n : Nat, n ≤ D.steps.length ∧ k = .int .i64 (n : Int) ∧ Hid (Below w0.heap.size w0 wr) ∧ Hid (∀ j, j < n → stepFault D.steps j = 0) ∧ Hid (cm = stepsF D.steps n (D.steps.length - n))) (fun _ _ k _ => D.steps.length - (intOf k).toNat)
    case atStart => exact ⟨0, Nat.zero_le _, rfl, HB1, fun j hj => absurd hj (Nat.not_lt_zero _), HMM⟩
    case round =>
      obtain ⟨n, hn, rfl, HB, HN, HF⟩ := hrel
      obtain ⟨k2, p1⟩ := HW.out _ HB.out
      have HK2 : Hid (Below w.heap.size w wr) := k2
      clear k2
      by_cases hlt : n < D.steps.length
      · have C : Hid (Calls Tryd.prog 62 #[.slice ao D.steps.length cap, .int .i64 (n : Int)] wr fun e w' => e = .returned (.int .i64 (stepFault D.steps n)) ∧ Below wr.heap.size wr w') := faultOf_any _ _ n hlt wr (HD.out.below HK2.out) (Utf8Tabs_below HT.out HK2.out)
        rw [show D.steps.length - n = (D.steps.length - (n + 1)) + 1 by omega] at HF
        by_cases hq : stepFault D.steps n = 0
        · rw [stepsF_go hq] at HF
          have HN2 : Hid (∀ j, j < n + 1 → stepFault D.steps j = 0) := fun j hj => by
            by_cases e : j = n
            · subst e; exact hq
            · exact HN.out j (by omega)
          rw [hq] at C
          clear hq HN
          go_wp2_with fail
          refine C.out.mono ?_
          rintro e w2 ⟨rfl, hb2⟩
          have HB2 : Hid (Below w0.heap.size w0 w2) := HB.out.trans (hb2.mono HB.out.size)
          clear C hb2 HB p1
          go_wp2
          exact ⟨⟨n + 1, by omega, by go_num, HB2, HN2, HF⟩, by simp [intOf]; omega⟩
        · rw [stepsF_stop hq] at HF
          have hq' : (stepFault D.steps n != (0 : Int)) = true := by simpa using hq
          clear hq HN
          generalize stepFault D.steps n = sf at *
          go_wp2_with fail
          refine C.out.mono ?_
          rintro e w2 ⟨rfl, hb2⟩
          have HB2 : Hid (Below w.heap.size w w2) := HK2.out.trans (hb2.mono HK2.out.size)
          clear C hb2 HB p1
          go_wp2
          go_ret2
          refine ⟨?_, HB2.out⟩
          rw [← HM1.out, ← HM2.out, HF.out]
          rfl
      · obtain rfl : n = D.steps.length := by omega
        have C : Hid (Calls Tryd.prog 63 #[.slice ao D.steps.length cap] wr fun e w' => e = .returned (.tuple #[.int .i64 (amongM D.steps).1, .int .i64 (amongM D.steps).2]) ∧ Below wr.heap.size wr w') := faultAmong_any _ _ (by omega) (needy_of HN.out) wr (HD.out.below HK2.out)
        rw [Nat.sub_self] at HF
        have HF2 : Hid (cm = amongM D.steps) := HF.out
        clear HN HF
        generalize amongM D.steps = am at *
        go_wp2_with fail
        refine C.out.mono ?_
        rintro e w2 ⟨rfl, hb2⟩
        have HB2 : Hid (Below w.heap.size w w2) := HK2.out.trans (hb2.mono HK2.out.size)
        clear C hb2 HB p1
        go_wp2
        go_ret2
        refine ⟨?_, HB2.out⟩
        rw [← HM1.out, ← HM2.out, HF2.out]
        rfl
end Go.Proofs.YtmjnllldjeeigaaDoor
