/- The walk of the document's keys. -/
import Derived.Test.YtaeakednekbekaaDoorAheadW
import Derived.Test.YtaeakednekbekaaDoorNmRefOwn
set_option linter.unusedVariables false
set_option maxRecDepth 100000
namespace Go.Proofs.YtaeakednekbekaaDoor
open Go.RowKit CheckMath
open Go.Proofs.YtaeakednekbekaaDoor.Nm

theorem isGo_len : ∀ (rs : List Nat) (m : Nat), m ≤ 8 → NameMath.isGo rs m = true → m + rs.length ≤ 8
  | [], m, hm, _ => by simpa using hm
  | r :: rs, m, hm, h => by
    rw [NameMath.isGo] at h
    by_cases h1 : NameMath.small r = false ∧ (m = 0 ∨ NameMath.dig r = false)
    · rw [if_pos h1] at h; cases h
    · rw [if_neg h1] at h
      by_cases h2 : 8 < m + 1
      · rw [if_pos h2] at h; cases h
      · rw [if_neg h2] at h
        have := isGo_len rs (m + 1) (by omega) h
        simp only [List.length_cons]
        omega
theorem runes_four : ∀ (l : List UInt8), l.length ≤ 4 * (NameMath.runes l).length := by
  apply NameMath.byRunes
  · exact Nat.zero_le _
  · intro l h ih
    rw [NameMath.runes_cons l h, List.length_cons]
    have h4 : (NameMath.dec l).2 ≤ 4 := (NameMath.d4_w _ _ _ _).2
    rw [List.length_drop] at ih
    omega
theorem isN_size {s : ByteArray} (h : isN s = true) : s.size ≤ 32 := by
  have h1 := isGo_len _ 0 (by omega) h
  have h2 := runes_four s.data.toList
  have h3 : s.data.toList.length = s.size := Array.length_toList
  omega

set_option maxHeartbeats 6000000 in
theorem refKeys_any (s : StepD) (kv nv : Value) (w : World) (h : KRow w kv s.keys) (hnv : ∃ a n c, nv = .slice a n c) (hz : ∀ x, x ∈ s.keys → x.size ≤ 140737488351232) :
    Calls Tryd.prog 31 #[.agg #[.string s.name, .int .i64 s.kind, .int .i64 s.part, kv, nv]] w fun e w' => e = .returned (.bool (tt (KeysOk s))) ∧ Below w.heap.size w w' := by
  obtain ⟨ao, cap, rfl, hcap, hn0, ⟨hlen, hsz⟩, hrow⟩ := h
  obtain ⟨na, nn, nc, rfl⟩ := hnv
  have HR : Hid (∀ j, j < s.keys.length → ∃ g o, ao = some ⟨g, o, none⟩ ∧ g < w.heap.size ∧ w.cell? ⟨g, o + j, none⟩ = some (.string (keyAt s.keys j))) := hrow
  have HZ : Hid (∀ x, x ∈ s.keys → x.size ≤ 140737488351232) := hz
  clear hrow hn0 hsz hz
  by_cases h2 : 2 < s.keys.length
  · have HE : Hid (tt (KeysOk s) = false) := tt_no (fun h => by have := h.1; omega)
    have h2' : (2 : Int) < (s.keys.length : Int) := by omega
    clear HR HZ
    go_enter Tryd.func31, Tryd.ntmps31
    go_wp2
    go_ret
    rw [HE.out]
    exact ⟨rfl, (Below.refl _ _).alloc (Nat.le_refl _) _⟩
  have h2' : ¬ (2 : Int) < (s.keys.length : Int) := by omega
  have HW : Hid (∀ wr, Below (w.alloc (.cells #[.string s.name, .int .i64 s.kind, .int .i64 s.part, .slice ao s.keys.length cap, .slice na nn nc] 44)).heap.size (w.alloc (.cells #[.string s.name, .int .i64 s.kind, .int .i64 s.part, .slice ao s.keys.length cap, .slice na nn nc] 44)) wr →
      Below w.heap.size w wr ∧ wr.cell? ⟨w.heap.size, 2, none⟩ = some (.int .i64 s.part) ∧ wr.cell? ⟨w.heap.size, 3, none⟩ = some (.slice ao s.keys.length cap)) := fun wr hb => by
    have h1 : Below w.heap.size w (w.alloc (.cells #[.string s.name, .int .i64 s.kind, .int .i64 s.part, .slice ao s.keys.length cap, .slice na nn nc] 44)) := (Below.refl _ _).alloc (Nat.le_refl _) _
    refine ⟨h1.trans (hb.mono h1.size), ?_, ?_⟩
    · rw [hb.cell (p := ⟨w.heap.size, 2, none⟩) (by simp), World.cell?_alloc_new]; rfl
    · rw [hb.cell (p := ⟨w.heap.size, 3, none⟩) (by simp), World.cell?_alloc_new]; rfl
  have HB00 : Hid (Below (w.alloc (.cells #[.string s.name, .int .i64 s.kind, .int .i64 s.part, .slice ao s.keys.length cap, .slice na nn nc] 44)).heap.size (w.alloc (.cells #[.string s.name, .int .i64 s.kind, .int .i64 s.part, .slice ao s.keys.length cap, .slice na nn nc] 44)) (w.alloc (.cells #[.string s.name, .int .i64 s.kind, .int .i64 s.part, .slice ao s.keys.length cap, .slice na nn nc] 44))) := Below.refl _ _
  go_enter Tryd.func31, Tryd.ntmps31
  go_wp2
  generalize (w.alloc (.cells #[.string s.name, .int .i64 s.kind, .int .i64 s.part, .slice ao s.keys.length cap, .slice na nn nc] 44)) = w0 at *
  go_loopw [3, 4] (fun k _ wr => ∃ m : Nat, m ≤ s.keys.length ∧ k = .int .i64 (m : Int) ∧ Hid (Below w0.heap.size w0 wr) ∧ Hid (∀ j, j < m → KeyOk s j)) (fun k _ _ => s.keys.length - (intOf k).toNat)
  case atStart => exact ⟨0, Nat.zero_le _, rfl, HB00, fun j hj => absurd hj (Nat.not_lt_zero _)⟩
  case round =>
    obtain ⟨m, hm, rfl, HB0, HN⟩ := hrel
    obtain ⟨hbw, p2, p3⟩ := HW.out wr HB0.out
    have HB : Hid (Below w.heap.size w wr) := hbw
    clear hbw HB00
    by_cases hlt : m < s.keys.length
    · obtain ⟨g, o, rfl, hg, c0⟩ := HR.out m hlt
      have d0 : wr.cell? ⟨g, o + m, none⟩ = some (.string (keyAt s.keys m)) := (HB.out.cell (p := ⟨g, o + m, none⟩) hg).trans c0
      have HC : Hid (0 < m → w.cell? ⟨g, o + (m - 1), none⟩ = some (.string (keyAt s.keys (m - 1)))) := fun h0 => by
        obtain ⟨g', o', e, _, k⟩ := HR.out (m - 1) (by omega)
        cases e
        exact k
      have HC0 : Hid (w.cell? ⟨g, o + m, none⟩ = some (.string (keyAt s.keys m))) := c0
      have HS : Hid (KeyOk s m → ∀ j, j < m + 1 → KeyOk s j) := fun h0 j hj => by
        by_cases e : j = m
        · subst e; exact h0
        · exact HN.out j (by omega)
      have HF : Hid (¬ KeyOk s m → tt (KeysOk s) = false) := fun h0 => tt_no (fun h1 => h0 (h1.2 m hlt))
      have HOK : Hid (KeyOk s m ↔ isN (keyAt s.keys m) = true ∧ (ownN (keyAt s.keys m) : Int) = s.part ∧ (0 < m → cmpN (keyAt s.keys (m - 1)) (keyAt s.keys m) < 0)) := Iff.rfl
      have HX : Hid ((keyAt s.keys m).size ≤ 140737488351232) := HZ.out _ (keyAt_mem hlt)
      have HY : Hid (0 < m → (keyAt s.keys (m - 1)).size ≤ 1048576) := fun h0 => by
        have := isN_size (HN.out (m - 1) (by omega)).1
        omega
      have hmI : (m : Int) < (s.keys.length : Int) := by omega
      clear c0 HN HR HZ
      generalize keyAt s.keys (m - 1) = y at *
      generalize keyAt s.keys m = x at *
      have C1 : Hid (∀ wq, Calls Tryd.prog 20 #[.string x] wq fun e w1 => e = .returned (.bool (isN x)) ∧ w1 = wq) := fun wq => refIs_any x HX.out wq
      have HBD : Hid (Below w0.heap.size w0 wr.drew) := below_drew HB0.out
      by_cases h1 : isN x = true
      · have hx32 := isN_size h1
        have C2 : Hid (∀ wq, Hid (Below w0.heap.size w0 wq) → Calls Tryd.prog 41 #[.string x] wq fun e w1 => e = .returned (.int .i64 (ownN x : Int)) ∧ (w1.cell? ⟨w.heap.size, 2, none⟩ = some (.int .i64 s.part) ∧ w1.cell? ⟨w.heap.size, 3, none⟩ = some (.slice (some ⟨g, o, none⟩) s.keys.length cap) ∧ w1.cell? ⟨g, o + m, none⟩ = some (.string x)) ∧ Hid (Below w0.heap.size w0 w1)) := fun wq hq => by
          refine (refOwner_any x (by omega) wq).mono ?_
          rintro e w1 ⟨rfl, hb1⟩
          have h3 : Below w0.heap.size w0 w1 := hq.out.trans (hb1.mono hq.out.size)
          obtain ⟨k1, k2, k3⟩ := HW.out w1 h3
          exact ⟨rfl, ⟨k2, k3, (k1.cell (p := ⟨g, o + m, none⟩) hg).trans HC0.out⟩, h3⟩
        rw [h1] at C1
        by_cases h3 : (ownN x : Int) = s.part
        · have h3' : ((ownN x : Int) != s.part) = false := by simpa using h3
          have HFL : Hid (∀ wq, Below w0.heap.size w0 wq → Below w.heap.size w wq) := fun wq hq => (HW.out _ hq).1
          by_cases h0 : m = 0
          · have HN2 : Hid _ := HS.out (HOK.out.2 ⟨h1, h3, fun h => by omega⟩)
            have h0' : ¬ (0 : Int) < (m : Int) := by omega
            have h0'' : decide ((0 : Int) < (m : Int)) = false := by simpa using h0'
            have h0n : decide (0 < m) = false := by simp; omega
            clear HOK HF HS HC h3 h1 h0 HX HY
            generalize (ownN x : Int) = ow at *
            go_wp2_with (go_at_call 20; refine (C1.out _).mono ?_; rintro e w1 ⟨rfl, hw1⟩; rw [hw1]; clear hw1 w1)
            go_region_held3 (fun w' => w'.cell? ⟨w.heap.size, 2, none⟩ = some (.int .i64 s.part) ∧ w'.cell? ⟨w.heap.size, 3, none⟩ = some (.slice (some ⟨g, o, none⟩) s.keys.length cap) ∧ w'.cell? ⟨g, o + m, none⟩ = some (.string x)) (go_keep) (first | (go_at_call 41; refine (C2.out _ HBD).mono ?_; rintro e w2 ⟨rfl, ⟨k2, k3, k4⟩, HB2⟩))
            go_wp2
            go_quiet (fail)
            go_wp2
            exact ⟨⟨m + 1, by omega, by go_num, below_drewN HB2.out _, HN2⟩, by simp [intOf]; omega⟩
          · have h0' : (0 : Int) < (m : Int) := by omega
            have h0'' : decide ((0 : Int) < (m : Int)) = true := by simpa using h0'
            have h0n : decide (0 < m) = true := by simp; omega
            have C3 : Hid (∀ wq, Hid (Below w0.heap.size w0 wq) → Calls Tryd.prog 42 #[.string y, .string x] wq fun e w1 => e = .returned (.int .i64 (cmpN y x)) ∧ (w1.cell? ⟨w.heap.size, 3, none⟩ = some (.slice (some ⟨g, o, none⟩) s.keys.length cap) ∧ w1.cell? ⟨g, o + m, none⟩ = some (.string x) ∧ w1.cell? ⟨g, o + (m - 1), none⟩ = some (.string y)) ∧ Hid (Below w0.heap.size w0 w1)) := fun wq hq => by
              refine (refCompare_any y x (HY.out (by omega)) (by omega) wq).mono ?_
              rintro e w1 ⟨rfl, hb1⟩
              have h3 : Below w0.heap.size w0 w1 := hq.out.trans (hb1.mono hq.out.size)
              obtain ⟨k1, k2, k3⟩ := HW.out w1 h3
              exact ⟨rfl, ⟨k3, (k1.cell (p := ⟨g, o + m, none⟩) hg).trans HC0.out, (k1.cell (p := ⟨g, o + (m - 1), none⟩) hg).trans (HC.out (by omega))⟩, h3⟩
            have HPV : Hid (∀ wq, Below w0.heap.size w0 wq → wq.cell? ⟨g, o + (m - 1), none⟩ = some (.string y)) := fun wq hq => ((HW.out _ hq).1.cell (p := ⟨g, o + (m - 1), none⟩) hg).trans (HC.out (by omega))
            have hwr : IntKind.i64.wrap ((m : Int) - 1) = ((m - 1 : Nat) : Int) := by rw [IntKind.wrap_i64]; omega
            have hmm : ((m - 1 : Nat) : Int) < (s.keys.length : Int) := by omega
            by_cases h4 : cmpN y x < 0
            · have HN2 : Hid _ := HS.out (HOK.out.2 ⟨h1, h3, fun h => h4⟩)
              have h4' : ¬ 0 ≤ cmpN y x := by omega
              have h4'' : decide (0 ≤ cmpN y x) = false := by simpa using h4'
              clear HOK HF HS HC h3 h1 h0 HX HY
              generalize (ownN x : Int) = ow at *
              generalize cmpN y x = cy at *
              go_wp2_with (go_at_call 20; refine (C1.out _).mono ?_; rintro e w1 ⟨rfl, hw1⟩; rw [hw1]; clear hw1 w1)
              go_region_held3 (fun w' => w'.cell? ⟨w.heap.size, 2, none⟩ = some (.int .i64 s.part) ∧ w'.cell? ⟨w.heap.size, 3, none⟩ = some (.slice (some ⟨g, o, none⟩) s.keys.length cap) ∧ w'.cell? ⟨g, o + m, none⟩ = some (.string x)) (go_keep) (first | (go_at_call 41; refine (C2.out _ HBD).mono ?_; rintro e w2 ⟨rfl, ⟨k2, k3, k4⟩, HB2⟩))
              have k5 := HPV.out _ HB2.out
              have HBD2 : Hid (Below w0.heap.size w0 w2.drew) := below_drew HB2.out
              clear d0 p2 p3 C2
              go_wp2_with fail
              go_region_held3 (fun w' => w'.cell? ⟨w.heap.size, 3, none⟩ = some (.slice (some ⟨g, o, none⟩) s.keys.length cap) ∧ w'.cell? ⟨g, o + m, none⟩ = some (.string x) ∧ w'.cell? ⟨g, o + (m - 1), none⟩ = some (.string y)) (go_keep) (first | (go_at_call 42; refine (C3.out _ HBD2).mono ?_; rintro e w3 ⟨rfl, ⟨k7, k8, k9⟩, HB3⟩))
              go_wp2
              exact ⟨⟨m + 1, by omega, by go_num, HB3, HN2⟩, by simp [intOf]; omega⟩
            · have HE : Hid (tt (KeysOk s) = false) := HF.out (fun h => h4 ((HOK.out.1 h).2.2 (by omega)))
              have h4' : 0 ≤ cmpN y x := by omega
              have h4'' : decide (0 ≤ cmpN y x) = true := by simpa using h4'
              clear HOK HF HS HC h3 h1 h0 HX HY
              generalize (ownN x : Int) = ow at *
              generalize cmpN y x = cy at *
              go_wp2_with (go_at_call 20; refine (C1.out _).mono ?_; rintro e w1 ⟨rfl, hw1⟩; rw [hw1]; clear hw1 w1)
              go_region_held3 (fun w' => w'.cell? ⟨w.heap.size, 2, none⟩ = some (.int .i64 s.part) ∧ w'.cell? ⟨w.heap.size, 3, none⟩ = some (.slice (some ⟨g, o, none⟩) s.keys.length cap) ∧ w'.cell? ⟨g, o + m, none⟩ = some (.string x)) (go_keep) (first | (go_at_call 41; refine (C2.out _ HBD).mono ?_; rintro e w2 ⟨rfl, ⟨k2, k3, k4⟩, HB2⟩))
              have k5 := HPV.out _ HB2.out
              have HBD2 : Hid (Below w0.heap.size w0 w2.drew) := below_drew HB2.out
              clear d0 p2 p3 C2
              go_wp2_with fail
              go_region_held3 (fun w' => w'.cell? ⟨w.heap.size, 3, none⟩ = some (.slice (some ⟨g, o, none⟩) s.keys.length cap) ∧ w'.cell? ⟨g, o + m, none⟩ = some (.string x) ∧ w'.cell? ⟨g, o + (m - 1), none⟩ = some (.string y)) (go_keep) (first | (go_at_call 42; refine (C3.out _ HBD2).mono ?_; rintro e w3 ⟨rfl, ⟨k7, k8, k9⟩, HB3⟩))
              go_wp2
              go_ret
              rw [HE.out]
              exact ⟨rfl, HFL.out _ HB3.out⟩
        · have h3' : ((ownN x : Int) != s.part) = true := by simpa using h3
          have HE : Hid (tt (KeysOk s) = false) := HF.out (fun h => by have := HOK.out.1 h; exact h3 this.2.1)
          have HFL : Hid (∀ wq, Below w0.heap.size w0 wq → Below w.heap.size w wq) := fun wq hq => (HW.out _ hq).1
          clear HOK HF HS HC h3 h1 HX HY
          generalize (ownN x : Int) = ow at *
          go_wp2_with (go_at_call 20; refine (C1.out _).mono ?_; rintro e w1 ⟨rfl, hw1⟩; rw [hw1]; clear hw1 w1)
          go_region_held3 (fun w' => w'.cell? ⟨w.heap.size, 2, none⟩ = some (.int .i64 s.part) ∧ w'.cell? ⟨w.heap.size, 3, none⟩ = some (.slice (some ⟨g, o, none⟩) s.keys.length cap) ∧ w'.cell? ⟨g, o + m, none⟩ = some (.string x)) (go_keep) (first | (go_at_call 41; refine (C2.out _ HBD).mono ?_; rintro e w2 ⟨rfl, ⟨k2, k3, k4⟩, HB2⟩))
          go_wp2
          go_ret
          rw [HE.out]
          exact ⟨rfl, HFL.out _ HB2.out⟩
      · have h1' : isN x = false := by simpa using h1
        rw [h1'] at C1
        have HE : Hid (tt (KeysOk s) = false) := HF.out (fun h => by have := HOK.out.1 h; exact h1 this.1)
        clear HOK HF HS HC h1 h1' HX HY
        go_wp2_with (go_at_call 20; refine (C1.out _).mono ?_; rintro e w1 ⟨rfl, hw1⟩; rw [hw1]; clear hw1 w1)
        go_quiet (fail)
        go_wp2
        go_ret
        rw [HE.out]
        exact ⟨rfl, below_drewN HB.out _⟩
    · have hmI : ¬ (m : Int) < (s.keys.length : Int) := by omega
      have HE : Hid (tt (KeysOk s) = true) := tt_yes ⟨by omega, fun k hk => HN.out k (by omega)⟩
      clear HN HR HZ
      go_wp2
      go_ret
      rw [HE.out]
      exact ⟨rfl, HB.out⟩
end Go.Proofs.YtaeakednekbekaaDoor
