/- The walks of nameAhead, needsMayBe and keysMayBe, in package check. -/
import Derived.Test.YtaeakednekbekaaDoorCBase
import Derived.Deep.RegionHeld3
set_option linter.unusedVariables false
set_option maxRecDepth 100000
namespace Go.Proofs.YtaeakednekbekaaDoor
open Go.RowKit CheckMath
open Go.Proofs.YtaeakednekbekaaDoor.Nm

set_option maxHeartbeats 2000000 in
theorem nameAhead_any (v : Value) (ss : List StepD) (i : Nat) (hi : i < ss.length) (w : World) (h : DRow w v ss) :
    Calls Tryd.prog 45 #[v, .int .i64 (i : Int)] w fun e w' => e = .returned (.bool (tt (Twice ss i))) ∧ Below w.heap.size w w' := by
  have HD : Hid (DRow w v ss) := h
  obtain ⟨ao, cap, rfl, hcap, hn0, hlen, hrow⟩ := h
  obtain ⟨g, o, rfl, hg, _⟩ := hrow i hi
  have HR : Hid (∀ j, j < ss.length → StepIn w g (o + j * 5) (nth ss j)) := fun j hj => by
    obtain ⟨g', o', e, _, k⟩ := hrow j hj
    cases e
    exact k
  clear hrow hn0
  go_enter Tryd.func45, Tryd.ntmps45
  go_wp2
  go_loopw [6, 11] (fun _ k wr => ∃ n : Nat, n ≤ i ∧ k = .int .i64 (n : Int) ∧ Hid (Below w.heap.size w wr) ∧ Hid (∀ j, j < n → ¬ (nth ss j).name = (nth ss i).name)) (fun _ k _ => i - (intOf k).toNat)
  case atStart => exact ⟨0, Nat.zero_le _, rfl, Below.refl _ _, fun j hj => absurd hj (Nat.not_lt_zero _)⟩
  case round =>
    obtain ⟨n, hn, rfl, HB, HN⟩ := hrel
    by_cases hlt : n < i
    · obtain ⟨c0, c1, c2, kv, nv, c3, c4, c5, c6⟩ := (HR.out n (by omega)).below hg HB.out
      obtain ⟨e0, _⟩ := (HR.out i hi).below hg HB.out
      obtain ⟨ka, kc, rfl⟩ := c5.slice
      obtain ⟨na, nc, rfl⟩ := c6.slice
      have hgr : g < wr.heap.size := Nat.lt_of_lt_of_le hg HB.out.size
      clear c5 c6 HR HD
      by_cases hq : (nth ss n).name = (nth ss i).name
      · have HE : Hid (tt (Twice ss i) = true) := tt_yes ⟨n, hlt, hq⟩
        have hq2 := txt_eq hq
        go_wp2
        go_quiet (fail)
        go_wp2
        go_ret
        rw [HE.out]
        exact ⟨rfl, below_drewN (HB.out.alloc HB.out.size _) _⟩
      · have hq2 := txt_ne hq
        have HN2 : Hid (∀ j, j < n + 1 → ¬ (nth ss j).name = (nth ss i).name) := fun j hj => by
          by_cases e : j = n
          · subst e; exact hq
          · exact HN.out j (by omega)
        clear hq HN
        go_wp2
        go_quiet (fail)
        go_wp2
        exact ⟨⟨n + 1, by omega, by go_num, below_drewN (HB.out.alloc HB.out.size _) _, HN2⟩, by simp [intOf]; omega⟩
    · obtain rfl : n = i := by omega
      have HE : Hid (tt (Twice ss n) = false) := tt_no (fun ⟨k, hk, e⟩ => HN.out k hk e)
      clear HN HR HD
      go_wp2
      go_ret
      rw [HE.out]
      exact ⟨rfl, HB.out⟩

set_option maxHeartbeats 2000000 in
theorem needsMayBe_any (v : Value) (l : List Int) (i n : Nat) (w : World) (h : IRow w v l) (hn : n ≤ 140737488355328) (hi : i ≤ 140737488355328) :
    Calls Tryd.prog 47 #[v, .int .i64 (i : Int), .int .i64 (n : Int)] w fun e w' => e = .returned (.bool (tt (NeedsOk l i n))) ∧ Below w.heap.size w w' := by
  obtain ⟨ao, cap, rfl, hcap, hn0, hlen, hrow⟩ := h
  have HR : Hid (∀ j, j < l.length → ∃ g o, ao = some ⟨g, o, none⟩ ∧ g < w.heap.size ∧ w.cell? ⟨g, o + j, none⟩ = some (.int .i64 (needAt l j))) := hrow
  clear hrow hn0
  go_enter Tryd.func47, Tryd.ntmps47
  go_wp2
  go_loopw [7, 8, 11] (fun _ _ k wr => ∃ m : Nat, m ≤ l.length ∧ k = .int .i64 (m : Int) ∧ Hid (Below w.heap.size w wr) ∧ Hid (∀ j, j < m → NeedOk l i n j)) (fun _ _ k _ => l.length - (intOf k).toNat)
  case atStart => exact ⟨0, Nat.zero_le _, rfl, Below.refl _ _, fun j hj => absurd hj (Nat.not_lt_zero _)⟩
  case round =>
    obtain ⟨m, hm, rfl, HB, HN⟩ := hrel
    by_cases hlt : m < l.length
    · obtain ⟨g, o, rfl, hg, c0⟩ := HR.out m hlt
      have d0 : wr.cell? ⟨g, o + m, none⟩ = some (.int .i64 (needAt l m)) := (HB.out.cell (p := ⟨g, o + m, none⟩) hg).trans c0
      have HC : Hid (0 < m → wr.cell? ⟨g, o + (m - 1), none⟩ = some (.int .i64 (needAt l (m - 1)))) := fun h0 => by
        obtain ⟨g', o', e, _, k⟩ := HR.out (m - 1) (by omega)
        cases e
        exact (HB.out.cell (p := ⟨g, o + (m - 1), none⟩) hg).trans k
      have HS : Hid (NeedOk l i n m → ∀ j, j < m + 1 → NeedOk l i n j) := fun h0 j hj => by
        by_cases e : j = m
        · subst e; exact h0
        · exact HN.out j (by omega)
      have HF : Hid (¬ NeedOk l i n m → tt (NeedsOk l i n) = false) := fun h0 => tt_no (fun h1 => h0 (h1 m hlt))
      clear c0 HN HR
      have HOK : Hid (NeedOk l i n m ↔ 0 ≤ needAt l m ∧ needAt l m < n ∧ needAt l m ≠ i ∧ (0 < m → needAt l (m - 1) < needAt l m)) := Iff.rfl
      generalize needAt l (m - 1) = y at *
      generalize needAt l m = x at *
      by_cases h1 : x < 0
      · have HE : Hid (tt (NeedsOk l i n) = false) := HF.out (fun h => by have := HOK.out.1 h; omega)
        clear HOK HF HS HC
        go_wp2
        go_ret
        rw [HE.out]
        exact ⟨rfl, HB.out⟩
      by_cases h2 : (n : Int) ≤ x
      · have HE : Hid (tt (NeedsOk l i n) = false) := HF.out (fun h => by have := HOK.out.1 h; omega)
        clear HOK HF HS HC
        go_wp2
        go_ret
        rw [HE.out]
        exact ⟨rfl, HB.out⟩
      by_cases h3 : x = (i : Int)
      · have HE : Hid (tt (NeedsOk l i n) = false) := HF.out (fun h => by have := HOK.out.1 h; omega)
        have h3' : (x == (i : Int)) = true := by simpa using h3
        clear HOK HF HS HC h3
        go_wp2
        go_ret
        rw [HE.out]
        exact ⟨rfl, HB.out⟩
      have h3' : (x == (i : Int)) = false := by simpa using h3
      by_cases h0 : m = 0
      · have HN2 := HS.out (HOK.out.2 ⟨by omega, by omega, h3, fun h => by omega⟩)
        have h0' : ¬ (0 : Int) < (m : Int) := by omega
        clear HOK HF HS HC h3 h0
        go_wp2
        exact ⟨⟨m + 1, by omega, by go_num, HB, HN2⟩, by simp [intOf]; omega⟩
      have h0' : (0 : Int) < (m : Int) := by omega
      have d1 := HC.out (by omega)
      by_cases h4 : x ≤ y
      · have HE : Hid (tt (NeedsOk l i n) = false) := HF.out (fun h => by have := (HOK.out.1 h).2.2.2 (by omega); omega)
        clear HOK HF HS HC h3 h0
        go_wp2
        go_ret
        rw [HE.out]
        exact ⟨rfl, HB.out⟩
      · have HN2 := HS.out (HOK.out.2 ⟨by omega, by omega, h3, fun h => by omega⟩)
        clear HOK HF HS HC h3 h0
        go_wp2
        exact ⟨⟨m + 1, by omega, by go_num, HB, HN2⟩, by simp [intOf]; omega⟩
    · obtain rfl : m = l.length := by omega
      have HE : Hid (tt (NeedsOk l i n) = true) := tt_yes (fun k hk => HN.out k hk)
      clear HN HR
      go_wp2
      go_ret
      rw [HE.out]
      exact ⟨rfl, HB.out⟩

theorem below_drew {B : Nat} {a w : World} (h : Below B a w) : Below B a w.drew := h.trans ⟨rfl, rfl, rfl, Nat.le_refl _, fun _ _ => rfl⟩
set_option maxHeartbeats 4000000 in
theorem keysMayBe_any (s : StepD) (kv nv : Value) (w : World) (h : KRow w kv s.keys) (hnv : ∃ a n c, nv = .slice a n c) (hT : Tabs w) :
    Calls Tryd.prog 46 #[.agg #[.string s.name, .int .i64 s.kind, .int .i64 s.part, kv, nv]] w fun e w' => e = .returned (.bool (tt (KeysOk s))) ∧ Below w.heap.size w w' := by
  obtain ⟨ao, cap, rfl, hcap, hn0, ⟨hlen, hsz⟩, hrow⟩ := h
  obtain ⟨na, nn, nc, rfl⟩ := hnv
  have HR : Hid (∀ j, j < s.keys.length → ∃ g o, ao = some ⟨g, o, none⟩ ∧ g < w.heap.size ∧ w.cell? ⟨g, o + j, none⟩ = some (.string (keyAt s.keys j))) := hrow
  have HZ : Hid (∀ x, x ∈ s.keys → x.size ≤ 140737488355328) := hsz
  have HT : Hid (Tabs w) := hT
  clear hrow hn0 hsz hT
  by_cases h2 : 2 < s.keys.length
  · have HE : Hid (tt (KeysOk s) = false) := tt_no (fun h => by have := h.1; omega)
    have h2' : (2 : Int) < (s.keys.length : Int) := by omega
    clear HR HZ
    go_enter Tryd.func46, Tryd.ntmps46
    go_wp2
    go_ret
    rw [HE.out]
    exact ⟨rfl, (Below.refl _ _).alloc (Nat.le_refl _) _⟩
  have h2' : ¬ (2 : Int) < (s.keys.length : Int) := by omega
  have HW : Hid (∀ wr, Below (w.alloc (.cells #[.string s.name, .int .i64 s.kind, .int .i64 s.part, .slice ao s.keys.length cap, .slice na nn nc] 44)).heap.size (w.alloc (.cells #[.string s.name, .int .i64 s.kind, .int .i64 s.part, .slice ao s.keys.length cap, .slice na nn nc] 44)) wr →
      Below w.heap.size w wr ∧ wr.cell? ⟨w.heap.size, 2, none⟩ = some (.int .i64 s.part) ∧ wr.cell? ⟨w.heap.size, 3, none⟩ = some (.slice ao s.keys.length cap)) := fun wr hb => by
    have h1 : Below w.heap.size w (w.alloc (.cells #[.string s.name, .int .i64 s.kind, .int .i64 s.part, .slice ao s.keys.length cap, .slice na nn nc] 44)) := (Below.refl _ _).alloc (Nat.le_refl _) _
    refine ⟨h1.trans (hb.mono h1.size), ?_, ?_⟩
    · rw [hb.cell (p := ⟨w.heap.size, 2, none⟩) (by simp), World.cell?_alloc_new]; rfl
    · rw [hb.cell (p := ⟨w.heap.size, 3, none⟩) (by simp), World.cell?_alloc_new]; rfl
  go_enter Tryd.func46, Tryd.ntmps46
  go_wp2
  generalize (w.alloc (.cells #[.string s.name, .int .i64 s.kind, .int .i64 s.part, .slice ao s.keys.length cap, .slice na nn nc] 44)) = w0 at *
  go_loopw [3, 4, 12] (fun _ _ k wr => ∃ m : Nat, m ≤ s.keys.length ∧ k = .int .i64 (m : Int) ∧ Hid (Below w0.heap.size w0 wr) ∧ Hid (∀ j, j < m → KeyOk s j)) (fun _ _ k _ => s.keys.length - (intOf k).toNat)
  case atStart => exact ⟨0, Nat.zero_le _, rfl, Below.refl _ _, fun j hj => absurd hj (Nat.not_lt_zero _)⟩
  case round =>
    obtain ⟨m, hm, rfl, HB0, HN⟩ := hrel
    obtain ⟨hbw, p2, p3⟩ := HW.out wr HB0.out
    have HB : Hid (Below w.heap.size w wr) := hbw
    have hwr : w.heap.size < wr.heap.size := block_lt_of_cell p2
    clear hbw
    by_cases hlt : m < s.keys.length
    · obtain ⟨g, o, rfl, hg, c0⟩ := HR.out m hlt
      have d0 : wr.cell? ⟨g, o + m, none⟩ = some (.string (keyAt s.keys m)) := (HB.out.cell (p := ⟨g, o + m, none⟩) hg).trans c0
      have HC : Hid (0 < m → w.cell? ⟨g, o + (m - 1), none⟩ = some (.string (keyAt s.keys (m - 1)))) := fun h0 => by
        obtain ⟨g', o', e, _, k⟩ := HR.out (m - 1) (by omega)
        cases e
        exact k
      have HS : Hid (KeyOk s m → ∀ j, j < m + 1 → KeyOk s j) := fun h0 j hj => by
        by_cases e : j = m
        · subst e; exact h0
        · exact HN.out j (by omega)
      have HF : Hid (¬ KeyOk s m → tt (KeysOk s) = false) := fun h0 => tt_no (fun h1 => h0 (h1.2 m hlt))
      have HOK : Hid (KeyOk s m ↔ isN (keyAt s.keys m) = true ∧ (ownN (keyAt s.keys m) : Int) = s.part ∧ (0 < m → cmpN (keyAt s.keys (m - 1)) (keyAt s.keys m) < 0)) := Iff.rfl
      have HX : Hid ((keyAt s.keys m).size ≤ 140737488355328) := HZ.out _ (keyAt_mem hlt)
      clear c0 HN HR HZ
      generalize keyAt s.keys (m - 1) = y at *
      generalize keyAt s.keys m = x at *
      have HBD : Hid (Below w0.heap.size w0 wr.drew) := below_drew HB0.out
      have C1 : Hid (∀ wq, Hid (Below w0.heap.size w0 wq) → Calls Tryd.prog 36 #[.string x] wq fun e w1 => e = .returned (.bool (isN x)) ∧ w1.cell? ⟨w.heap.size, 2, none⟩ = some (.int .i64 s.part) ∧ Hid (Below w0.heap.size w0 w1)) := fun wq hq => by
        refine (is_any x wq).mono ?_
        rintro e w1 ⟨rfl, hb1⟩
        have h3 : Below w0.heap.size w0 w1 := hq.out.trans (hb1.mono hq.out.size)
        exact ⟨rfl, (HW.out w1 h3).2.1, h3⟩
      have C2 : Hid (∀ wq, Hid (Below w0.heap.size w0 wq) → Calls Tryd.prog 54 #[.string x] wq fun e w1 => e = .returned (.int .i64 (ownN x : Int)) ∧ w1.cell? ⟨w.heap.size, 2, none⟩ = some (.int .i64 s.part) ∧ Hid (Below w0.heap.size w0 w1)) := fun wq hq => by
        refine (owner_any x wq).mono ?_
        rintro e w1 ⟨rfl, hb1⟩
        have h3 : Below w0.heap.size w0 w1 := hq.out.trans (hb1.mono hq.out.size)
        exact ⟨rfl, (HW.out w1 h3).2.1, h3⟩
      have C3 : Hid (∀ wq, Hid (Below w0.heap.size w0 wq) → Calls Tryd.prog 55 #[.string y, .string x] wq fun e w1 => e = .returned (.int .i64 (cmpN y x)) ∧ Hid (Below w0.heap.size w0 w1)) := fun wq hq => by
        refine (compare_any y x HX.out wq (Utf8Tabs_below HT.out (HW.out wq hq.out).1)).mono ?_
        rintro e w1 ⟨rfl, hb1⟩
        exact ⟨rfl, hq.out.trans (hb1.mono hq.out.size)⟩
      clear HX
      by_cases h1 : isN x = true
      · rw [h1] at C1
        by_cases h3 : (ownN x : Int) = s.part
        · have h3' : ((ownN x : Int) != s.part) = false := by simpa using h3
          by_cases h0 : m = 0
          · have HN2 := HS.out (HOK.out.2 ⟨h1, h3, fun h => by omega⟩)
            have h0' : ¬ (0 : Int) < (m : Int) := by omega
            clear HOK HF HS HC h3 h1 h0
            generalize (ownN x : Int) = ow at *
            go_wp2_with fail
            go_region_held3 (fun w' => w'.cell? ⟨w.heap.size, 2, none⟩ = some (.int .i64 s.part)) (go_keep) (first | (go_at_call 36; refine (C1.out _ HBD).mono ?_; rintro e w1 ⟨rfl, k1, HB1⟩) | (go_at_call 54; refine (C2.out _ HB1).mono ?_; rintro e w2 ⟨rfl, k2, HB2⟩))
            all_goals go_wp2
            all_goals exact ⟨⟨m + 1, by omega, by go_num, HB2, HN2⟩, by simp [intOf]; omega⟩
          · have h0' : (0 : Int) < (m : Int) := by omega
            have HC2 : Hid (∀ wq, Hid (Below w0.heap.size w0 wq) → wq.cell? ⟨g, o + (m - 1), none⟩ = some (.string y) ∧ wq.cell? ⟨w.heap.size, 3, none⟩ = some (.slice (some ⟨g, o, none⟩) s.keys.length cap)) := fun wq hq =>
              ⟨((HW.out wq hq.out).1.cell (p := ⟨g, o + (m - 1), none⟩) hg).trans (HC.out (by omega)), (HW.out wq hq.out).2.2⟩
            by_cases h4 : cmpN y x < 0
            · have HN2 := HS.out (HOK.out.2 ⟨h1, h3, fun h => h4⟩)
              have h4' : ¬ 0 ≤ cmpN y x := by omega
              clear HOK HF HS HC h3 h1 h0
              generalize (ownN x : Int) = ow at *
              generalize cmpN y x = cy at *
              go_wp2_with fail
              go_region_held3 (fun w' => w'.cell? ⟨w.heap.size, 2, none⟩ = some (.int .i64 s.part)) (go_keep) (first | (go_at_call 36; refine (C1.out _ HBD).mono ?_; rintro e w1 ⟨rfl, k1, HB1⟩) | (go_at_call 54; refine (C2.out _ HB1).mono ?_; rintro e w2 ⟨rfl, k2, HB2⟩))
              obtain ⟨q1, q2⟩ := HC2.out _ HB2
              go_wp2_with (go_at_call 55; refine (C3.out _ HB2).mono ?_; rintro e w3 ⟨rfl, HB3⟩)
              all_goals exact ⟨⟨m + 1, by omega, by go_num, HB3, HN2⟩, by simp [intOf]; omega⟩
            · have HE : Hid (tt (KeysOk s) = false) := HF.out (fun h => h4 ((HOK.out.1 h).2.2 (by omega)))
              have h4' : 0 ≤ cmpN y x := by omega
              clear HOK HF HS HC h3 h1 h0
              generalize (ownN x : Int) = ow at *
              generalize cmpN y x = cy at *
              go_wp2_with fail
              go_region_held3 (fun w' => w'.cell? ⟨w.heap.size, 2, none⟩ = some (.int .i64 s.part)) (go_keep) (first | (go_at_call 36; refine (C1.out _ HBD).mono ?_; rintro e w1 ⟨rfl, k1, HB1⟩) | (go_at_call 54; refine (C2.out _ HB1).mono ?_; rintro e w2 ⟨rfl, k2, HB2⟩))
              obtain ⟨q1, q2⟩ := HC2.out _ HB2
              go_wp2_with (go_at_call 55; refine (C3.out _ HB2).mono ?_; rintro e w3 ⟨rfl, HB3⟩)
              go_ret
              rw [HE.out]
              exact ⟨rfl, (HW.out _ HB3.out).1⟩
        · have h3' : ((ownN x : Int) != s.part) = true := by simpa using h3
          have HE : Hid (tt (KeysOk s) = false) := HF.out (fun h => by have := HOK.out.1 h; exact h3 this.2.1)
          clear HOK HF HS HC h3 h1
          generalize (ownN x : Int) = ow at *
          go_wp2_with fail
          go_region_held3 (fun w' => w'.cell? ⟨w.heap.size, 2, none⟩ = some (.int .i64 s.part)) (go_keep) (first | (go_at_call 36; refine (C1.out _ HBD).mono ?_; rintro e w1 ⟨rfl, k1, HB1⟩) | (go_at_call 54; refine (C2.out _ HB1).mono ?_; rintro e w2 ⟨rfl, k2, HB2⟩))
          all_goals go_wp2
          all_goals go_ret
          all_goals rw [HE.out]
          all_goals exact ⟨rfl, (HW.out _ HB2.out).1⟩
      · have h1' : isN x = false := by simpa using h1
        rw [h1'] at C1
        have HE : Hid (tt (KeysOk s) = false) := HF.out (fun h => by have := HOK.out.1 h; exact h1 this.1)
        clear HOK HF HS HC h1 h1'
        go_wp2_with fail
        first | (go_region_with (go_at_call 36; refine (C1.out _ HBD).mono ?_; rintro e w1 ⟨rfl, k1, HB1⟩)) | fail
        all_goals go_wp2
        all_goals go_ret
        all_goals rw [HE.out]
        all_goals exact ⟨rfl, (HW.out _ HB1.out).1⟩
    · obtain rfl : m = s.keys.length := by omega
      have HE : Hid (tt (KeysOk s) = true) := tt_yes ⟨by omega, fun k hk => HN.out k hk⟩
      clear HN HR HZ
      go_wp2
      go_ret
      rw [HE.out]
      exact ⟨rfl, HB.out⟩
end Go.Proofs.YtaeakednekbekaaDoor
