/- The walks of slices.Index and Contains at texts, takenEarlier and keyUntaken, in package check. -/
import Derived.Test.YtaeakednekbekaaDoorCBase
set_option linter.unusedVariables false
set_option maxRecDepth 100000
namespace Go.Proofs.YtaeakednekbekaaDoor
open Go.RowKit CheckMath
open Go.Proofs.YtaeakednekbekaaDoor.Nm

set_option maxHeartbeats 2000000 in
theorem indexT_any (v : Value) (xs : List ByteArray) (y : ByteArray) (w : World) (h : KRow w v xs) :
    Calls Tryd.prog 64 #[v, .string y] w fun e w' => e = .returned (.int .i64 (firstI (fun k => keyAt xs k = y) xs.length)) ∧ Below w.heap.size w w' := by
  obtain ⟨ao, cap, rfl, hcap, hn0, ⟨hlen, _⟩, hrow⟩ := h
  have HR : Hid (∀ j, j < xs.length → ∃ g o, ao = some ⟨g, o, none⟩ ∧ g < w.heap.size ∧ w.cell? ⟨g, o + j, none⟩ = some (.string (keyAt xs j))) := hrow
  clear hrow hn0
  go_enter Tryd.func64, Tryd.ntmps64
  go_wp2
  go_loopw [5, 8] (fun _ i wr => ∃ k : Nat, k ≤ xs.length ∧ i = .int .i64 (k : Int) ∧ Hid (Below w.heap.size w wr) ∧ Hid (firstI (fun k => keyAt xs k = y) xs.length = firstF (fun k => keyAt xs k = y) k (xs.length - k))) (fun _ i _ => xs.length - (intOf i).toNat)
  case atStart => exact ⟨0, Nat.zero_le _, rfl, Below.refl _ _, rfl⟩
  case round =>
    obtain ⟨k, hk, rfl, HB, HN⟩ := hrel
    by_cases hlt : k < xs.length
    · obtain ⟨g, o, rfl, hg, c0⟩ := HR.out k hlt
      have d0 : wr.cell? ⟨g, o + k, none⟩ = some (.string (keyAt xs k)) := (HB.out.cell (p := ⟨g, o + k, none⟩) hg).trans c0
      rw [show xs.length - k = (xs.length - (k + 1)) + 1 by omega, firstF] at HN
      clear c0 HR
      by_cases hq : keyAt xs k = y
      · rw [tt_yes hq] at HN
        simp only [if_true] at HN
        have hq2 : (y.toList == (keyAt xs k).toList) = true := txt_eq hq.symm
        clear hq
        generalize keyAt xs k = z at *
        go_wp2
        go_ret
        rw [HN.out]
        exact ⟨rfl, HB.out⟩
      · rw [tt_no hq] at HN
        simp only [Bool.false_eq_true, if_false] at HN
        have hq2 : (y.toList == (keyAt xs k).toList) = false := txt_ne (fun e => hq e.symm)
        clear hq
        generalize keyAt xs k = z at d0 hq2
        go_wp2
        exact ⟨⟨k + 1, by omega, by go_num, HB, HN⟩, by simp [intOf]; omega⟩
    · obtain rfl : k = xs.length := by omega
      have HE : Hid (firstI (fun k => keyAt xs k = y) xs.length = -1) := by rw [HN.out, Nat.sub_self]; rfl
      clear HN HR
      go_wp2
      go_ret
      rw [HE.out]
      exact ⟨rfl, HB.out⟩
set_option maxHeartbeats 1000000 in
theorem containsT_any (v : Value) (xs : List ByteArray) (y : ByteArray) (w : World) (h : KRow w v xs) :
    Calls Tryd.prog 62 #[v, .string y] w fun e w' => e = .returned (.bool (tt (y ∈ xs))) ∧ Below w.heap.size w w' := by
  have C : Hid (Calls Tryd.prog 64 #[v, .string y] w fun e w' => e = .returned (.int .i64 (firstI (fun k => keyAt xs k = y) xs.length)) ∧ Below w.heap.size w w') := indexT_any v xs y w h
  obtain ⟨ao, cap, rfl⟩ := h.slice
  have hr := firstI_range (fun k => keyAt xs k = y) xs.length
  by_cases hq : y ∈ xs
  · have HE : Hid (tt (y ∈ xs) = true) := tt_yes hq
    have h1 : 0 ≤ firstI (fun k => keyAt xs k = y) xs.length := by
      rcases hr with e | e
      · obtain ⟨k, hk, e2⟩ := mem_keyAt hq
        exact absurd e2 ((firstI_none _ _).1 e k hk)
      · exact e.1
    clear hr hq h
    generalize firstI (fun k => keyAt xs k = y) xs.length = r at *
    go_enter Tryd.func62, Tryd.ntmps62
    go_wp2_with fail
    refine C.out.mono ?_
    rintro e w1 ⟨rfl, hb1⟩
    go_wp2
    go_ret
    rw [HE.out]
    exact ⟨rfl, hb1⟩
  · have HE : Hid (tt (y ∈ xs) = false) := tt_no hq
    have h1 : firstI (fun k => keyAt xs k = y) xs.length = -1 := (firstI_none _ _).2 (fun i hi e => hq (by rw [← e]; exact keyAt_mem hi))
    rw [h1] at C
    clear hr hq h h1
    go_enter Tryd.func62, Tryd.ntmps62
    go_wp2_with fail
    refine C.out.mono ?_
    rintro e w1 ⟨rfl, hb1⟩
    go_wp2
    go_ret
    rw [HE.out]
    exact ⟨rfl, hb1⟩

set_option maxHeartbeats 2000000 in
theorem takenEarlier_any (v : Value) (ss : List StepD) (y : ByteArray) (w : World) (h : DRow w v ss) :
    Calls Tryd.prog 59 #[v, .string y] w fun e w' => e = .returned (.bool (tt (Taken ss y))) ∧ Below w.heap.size w w' := by
  obtain ⟨ao, cap, rfl, hcap, hn0, hlen, hrow⟩ := h
  have HR : Hid (∀ j, j < ss.length → ∃ g o, ao = some ⟨g, o, none⟩ ∧ g < w.heap.size ∧ StepIn w g (o + j * 5) (nth ss j)) := hrow
  clear hrow hn0
  go_enter Tryd.func59, Tryd.ntmps59
  go_wp2
  go_loopw [6, 9] (fun _ i wr => ∃ k : Nat, k ≤ ss.length ∧ i = .int .i64 (k : Int) ∧ Hid (Below w.heap.size w wr) ∧ Hid (∀ j, j < k → ¬ ((nth ss j).kind ≠ 3 ∧ y ∈ (nth ss j).keys))) (fun _ i _ => ss.length - (intOf i).toNat)
  case atStart => exact ⟨0, Nat.zero_le _, rfl, Below.refl _ _, fun j hj => absurd hj (Nat.not_lt_zero _)⟩
  case round =>
    obtain ⟨k, hk, rfl, HB, HN⟩ := hrel
    by_cases hlt : k < ss.length
    · obtain ⟨g, o, rfl, hg, hs⟩ := HR.out k hlt
      obtain ⟨c0, c1, c2, kv, nv, c3, c4, c5, c6⟩ := hs.below hg HB.out
      obtain ⟨na, nc, rfl⟩ := c6.slice
      obtain ⟨ka, kc, hkv⟩ := c5.slice
      have HY : Hid ((nth ss k).kind ≠ 3 ∧ y ∈ (nth ss k).keys → tt (Taken ss y) = true) := fun h => tt_yes ⟨k, hlt, h⟩
      have HN2 : Hid (¬ ((nth ss k).kind ≠ 3 ∧ y ∈ (nth ss k).keys) → ∀ j, j < k + 1 → ¬ ((nth ss j).kind ≠ 3 ∧ y ∈ (nth ss j).keys)) := fun h0 j hj => by
        by_cases e : j = k
        · subst e; exact h0
        · exact HN.out j (by omega)
      have hb0 : Below wr.heap.size wr (wr.alloc (.cells #[.string (nth ss k).name, .int .i64 (nth ss k).kind, .int .i64 (nth ss k).part, kv, .slice na (nth ss k).needs.length nc] 44)) := (Below.refl _ _).alloc (Nat.le_refl _) _
      have HB1 : Hid (Below w.heap.size w (wr.alloc (.cells #[.string (nth ss k).name, .int .i64 (nth ss k).kind, .int .i64 (nth ss k).part, kv, .slice na (nth ss k).needs.length nc] 44))) := HB.out.alloc HB.out.size _
      have C : Hid (Calls Tryd.prog 62 #[kv, .string y] (wr.alloc (.cells #[.string (nth ss k).name, .int .i64 (nth ss k).kind, .int .i64 (nth ss k).part, kv, .slice na (nth ss k).needs.length nc] 44)) fun e w' => e = .returned (.bool (tt (y ∈ (nth ss k).keys))) ∧ Below (wr.alloc (.cells #[.string (nth ss k).name, .int .i64 (nth ss k).kind, .int .i64 (nth ss k).part, kv, .slice na (nth ss k).needs.length nc] 44)).heap.size (wr.alloc (.cells #[.string (nth ss k).name, .int .i64 (nth ss k).kind, .int .i64 (nth ss k).part, kv, .slice na (nth ss k).needs.length nc] 44)) w') := containsT_any _ _ _ _ (c5.below hb0)
      subst hkv
      clear c5 c6 HR HN hs hb0
      by_cases h3 : (nth ss k).kind = 3
      · have h3' : ((nth ss k).kind != (3 : Int)) = false := by simpa using h3
        have HN3 := HN2.out (fun h => h.1 h3)
        clear h3 HN2 HY C
        generalize (nth ss k).kind = sk at *
        go_wp2
        exact ⟨⟨k + 1, by omega, by go_num, HB1, HN3⟩, by simp [intOf]; omega⟩
      · have h3' : ((nth ss k).kind != (3 : Int)) = true := by simpa using h3
        by_cases hm : y ∈ (nth ss k).keys
        · rw [tt_yes hm] at C
          have HE := HY.out ⟨h3, hm⟩
          clear h3 HN2 HY hm
          generalize (nth ss k).kind = sk at *
          go_wp2_with fail
          refine C.out.mono ?_
          rintro e w1 ⟨rfl, hb1⟩
          have HB2 : Hid (Below w.heap.size w w1) := HB1.out.trans (hb1.mono HB1.out.size)
          clear C hb1 HB1
          go_wp2
          go_ret
          rw [HE]
          exact ⟨rfl, HB2.out⟩
        · rw [tt_no hm] at C
          have HN3 : Hid _ := HN2.out (fun h => hm h.2)
          clear h3 HN2 HY hm
          generalize (nth ss k).kind = sk at c1 C HB1 h3'
          go_wp2_with fail
          refine C.out.mono ?_
          rintro e w1 ⟨rfl, hb1⟩
          have HB2 : Hid (Below w.heap.size w w1) := HB1.out.trans (hb1.mono HB1.out.size)
          clear C hb1 HB1
          go_wp2
          exact ⟨⟨k + 1, by omega, by go_num, HB2, HN3⟩, by simp [intOf]; omega⟩
    · obtain rfl : k = ss.length := by omega
      have HE : Hid (tt (Taken ss y) = false) := tt_no (fun ⟨k, hk, h⟩ => HN.out k hk h)
      clear HN HR
      go_wp2
      go_ret
      rw [HE.out]
      exact ⟨rfl, HB.out⟩

set_option maxHeartbeats 2000000 in
theorem keyUntaken_any (v : Value) (ss : List StepD) (i : Nat) (hi : i < ss.length) (w : World) (h : DRow w v ss) :
    Calls Tryd.prog 52 #[v, .int .i64 (i : Int)] w fun e w' => e = .returned (.bool (tt (KeyUntaken ss i))) ∧ Below w.heap.size w w' := by
  have HD : Hid (DRow w v ss) := h
  obtain ⟨ao, cap, rfl, hcap, _, hlen, hrow⟩ := h
  obtain ⟨g, o, rfl, hg, c0, c1, c2, kv, nv, c3, c4, c5, c6⟩ := hrow i hi
  by_cases hq : (nth ss i).kind = 3
  case neg =>
    have HE : Hid (tt (KeyUntaken ss i) = false) := tt_no (fun h => hq h.1)
    have h' : ((nth ss i).kind != (3 : Int)) = true := by simpa using hq
    clear hq hrow c5 c6 c3 c4 HD
    go_enter Tryd.func52, Tryd.ntmps52
    go_wp2
    go_ret
    rw [HE.out]
    exact ⟨rfl, Below.refl _ _⟩
  have HQ : Hid ((nth ss i).kind = 3) := hq
  have h' : ((nth ss i).kind != (3 : Int)) = false := by simpa using hq
  obtain ⟨ka, kc, rfl, hkc, _, ⟨hkl, _⟩, hkr⟩ := c5
  have HR : Hid (∀ j, j < (nth ss i).keys.length → ∃ g o, ka = some ⟨g, o, none⟩ ∧ g < w.heap.size ∧ w.cell? ⟨g, o + j, none⟩ = some (.string (keyAt (nth ss i).keys j))) := hkr
  clear hq hrow c6 c4 hkr
  go_enter Tryd.func52, Tryd.ntmps52
  go_wp2
  go_loopw [6, 19] (fun _ k wr => ∃ n : Nat, n ≤ (nth ss i).keys.length ∧ k = .int .i64 (n : Int) ∧ Hid (Below w.heap.size w wr) ∧ Hid (∀ j, j < n → Taken ss (keyAt (nth ss i).keys j))) (fun _ k _ => (nth ss i).keys.length - (intOf k).toNat)
  case atStart => exact ⟨0, Nat.zero_le _, rfl, Below.refl _ _, fun j hj => absurd hj (Nat.not_lt_zero _)⟩
  case round =>
    obtain ⟨n, hn, rfl, HB, HN⟩ := hrel
    by_cases hlt : n < (nth ss i).keys.length
    · obtain ⟨g2, o2, rfl, hg2, d0⟩ := HR.out n hlt
      have d1 : wr.cell? ⟨g2, o2 + n, none⟩ = some (.string (keyAt (nth ss i).keys n)) := (HB.out.cell (p := ⟨g2, o2 + n, none⟩) hg2).trans d0
      have C : Hid (Calls Tryd.prog 59 #[.slice (some ⟨g, o, none⟩) ss.length cap, .string (keyAt (nth ss i).keys n)] wr fun e w' => e = .returned (.bool (tt (Taken ss (keyAt (nth ss i).keys n)))) ∧ Below wr.heap.size wr w') := takenEarlier_any _ _ _ _ (HD.out.below HB.out)
      have HM : Hid (keyAt (nth ss i).keys n ∈ (nth ss i).keys) := keyAt_mem hlt
      clear d0 c0 c1 c2 c3 HR HD
      by_cases hk : Taken ss (keyAt (nth ss i).keys n)
      · rw [tt_yes hk] at C
        have HN2 : Hid (∀ j, j < n + 1 → Taken ss (keyAt (nth ss i).keys j)) := fun j hj => by
          by_cases e : j = n
          · subst e; exact hk
          · exact HN.out j (by omega)
        clear hk HN HM
        generalize keyAt (nth ss i).keys n = y at d1 C
        go_wp2_with fail
        refine C.out.mono ?_
        rintro e w1 ⟨rfl, hb1⟩
        have HB2 : Hid (Below w.heap.size w w1) := HB.out.trans (hb1.mono HB.out.size)
        clear C hb1 HB
        go_wp2
        exact ⟨⟨n + 1, by omega, by go_num, HB2, HN2⟩, by simp [intOf]; omega⟩
      · rw [tt_no hk] at C
        have HE : Hid (tt (KeyUntaken ss i) = true) := tt_yes ⟨HQ.out, _, HM.out, hk⟩
        clear hk HN HM
        generalize keyAt (nth ss i).keys n = y at *
        go_wp2_with fail
        refine C.out.mono ?_
        rintro e w1 ⟨rfl, hb1⟩
        have HB2 : Hid (Below w.heap.size w w1) := HB.out.trans (hb1.mono HB.out.size)
        clear C hb1 HB
        go_wp2
        go_ret
        rw [HE.out]
        exact ⟨rfl, HB2.out⟩
    · obtain rfl : n = (nth ss i).keys.length := by omega
      have HE : Hid (tt (KeyUntaken ss i) = false) := tt_no (fun ⟨_, x, hx, e⟩ => by
        obtain ⟨j, hj, rfl⟩ := mem_keyAt hx
        exact e (HN.out j hj))
      clear HN HR HD
      go_wp2
      go_ret
      rw [HE.out]
      exact ⟨rfl, HB.out⟩
end Go.Proofs.YtaeakednekbekaaDoor
