/- The walks of the document's twice and needs. -/
import Derived.Test.YtaeakednekbekaaDoorCBase
set_option linter.unusedVariables false
set_option maxRecDepth 100000
namespace Go.Proofs.YtaeakednekbekaaDoor
open Go.RowKit CheckMath
open Go.Proofs.YtaeakednekbekaaDoor.Nm

/-- A definition that is boxed: its block, read by whoever comes behind. -/
theorem box_def {w : World} {nm : ByteArray} {ao : Option Addr} {n cap : Nat} (wq : World) (hb : Below (w.alloc (.cells #[.string nm, .slice ao n cap] 24)).heap.size (w.alloc (.cells #[.string nm, .slice ao n cap] 24)) wq) :
    Below w.heap.size w wq ∧ wq.cell? ⟨w.heap.size, 0, none⟩ = some (.string nm) ∧ wq.cell? ⟨w.heap.size, 1, none⟩ = some (.slice ao n cap) := by
  have h1 : Below w.heap.size w (w.alloc (.cells #[.string nm, .slice ao n cap] 24)) := (Below.refl _ _).alloc (Nat.le_refl _) _
  refine ⟨h1.trans (hb.mono h1.size), ?_, ?_⟩
  · rw [hb.cell (p := ⟨w.heap.size, 0, none⟩) (by simp), World.cell?_alloc_new]; rfl
  · rw [hb.cell (p := ⟨w.heap.size, 1, none⟩) (by simp), World.cell?_alloc_new]; rfl

set_option maxHeartbeats 2000000 in
theorem refTwice_any (v : Value) (D : DefD) (i : Nat) (hi : i < D.steps.length) (w : World) (h : DefIn w v D) :
    Calls Tryd.prog 30 #[v, .int .i64 (i : Int)] w fun e w' => e = .returned (.bool (tt (Twice D.steps i))) ∧ Below w.heap.size w w' := by
  obtain ⟨sv, rfl, hd⟩ := h
  obtain ⟨ao, cap, rfl, hcap, hn0, hlen, hrow⟩ := hd
  obtain ⟨g, o, rfl, hg, _⟩ := hrow i hi
  have HR : Hid (∀ j, j < D.steps.length → StepIn w g (o + j * 5) (nth D.steps j)) := fun j hj => by
    obtain ⟨g', o', e, _, k⟩ := hrow j hj
    cases e
    exact k
  have HW : Hid (∀ wq, Below (w.alloc (.cells #[.string D.name, .slice (some ⟨g, o, none⟩) D.steps.length cap] 24)).heap.size (w.alloc (.cells #[.string D.name, .slice (some ⟨g, o, none⟩) D.steps.length cap] 24)) wq → Below w.heap.size w wq ∧ wq.cell? ⟨w.heap.size, 0, none⟩ = some (.string D.name) ∧ wq.cell? ⟨w.heap.size, 1, none⟩ = some (.slice (some ⟨g, o, none⟩) D.steps.length cap)) := fun wq hb => box_def wq hb
  have HB0 : Hid (Below (w.alloc (.cells #[.string D.name, .slice (some ⟨g, o, none⟩) D.steps.length cap] 24)).heap.size (w.alloc (.cells #[.string D.name, .slice (some ⟨g, o, none⟩) D.steps.length cap] 24)) (w.alloc (.cells #[.string D.name, .slice (some ⟨g, o, none⟩) D.steps.length cap] 24))) := Below.refl _ _
  have hiI : (i : Int) < (D.steps.length : Int) := by omega
  clear hrow hn0
  go_enter Tryd.func30, Tryd.ntmps30
  go_wp2
  generalize (w.alloc (.cells #[.string D.name, .slice (some ⟨g, o, none⟩) D.steps.length cap] 24)) = w0 at *
  go_loopw [5] (fun k wr => ∃ n : Nat, n ≤ i ∧ k = .int .i64 (n : Int) ∧ Hid (Below w0.heap.size w0 wr) ∧ Hid (∀ j, j < n → ¬ (nth D.steps j).name = (nth D.steps i).name)) (fun k _ => i - (intOf k).toNat)
  case atStart => exact ⟨0, Nat.zero_le _, rfl, HB0, fun j hj => absurd hj (Nat.not_lt_zero _)⟩
  case round =>
    obtain ⟨n, hn, rfl, HB, HN⟩ := hrel
    obtain ⟨hbw, p0, p1⟩ := HW.out _ HB.out
    by_cases hlt : n < i
    · obtain ⟨c0, _⟩ := (HR.out n (by omega)).below hg hbw
      obtain ⟨e0, _⟩ := (HR.out i hi).below hg hbw
      have hnI : (n : Int) < (D.steps.length : Int) := by omega
      clear HR hbw p0
      by_cases hq : (nth D.steps n).name = (nth D.steps i).name
      · have HE : Hid (tt (Twice D.steps i) = true) := tt_yes ⟨n, hlt, hq⟩
        have hq2 := txt_eq hq
        have HF : Hid (Below w.heap.size w wr) := (HW.out _ HB.out).1
        clear hq HN
        go_wp2
        go_quiet (fail)
        go_wp2
        go_ret
        rw [HE.out]
        exact ⟨rfl, below_drewN HF.out _⟩
      · have hq2 := txt_ne hq
        have HN2 : Hid (∀ j, j < n + 1 → ¬ (nth D.steps j).name = (nth D.steps i).name) := fun j hj => by
          by_cases e : j = n
          · subst e; exact hq
          · exact HN.out j (by omega)
        clear hq HN
        go_wp2
        go_quiet (fail)
        go_wp2
        exact ⟨⟨n + 1, by omega, by go_num, below_drewN HB.out _, HN2⟩, by simp [intOf]; omega⟩
    · have hni : ¬ (n : Int) < (i : Int) := by omega
      have HE : Hid (tt (Twice D.steps i) = false) := tt_no (fun ⟨k, hk, e⟩ => HN.out k (by omega) e)
      clear HN HR
      go_wp2
      go_ret
      rw [HE.out]
      exact ⟨rfl, hbw⟩

set_option maxHeartbeats 4000000 in
theorem refNeeds_any (v : Value) (l : List Int) (i n : Nat) (w : World) (h : IRow w v l) (hn : n ≤ 140737488355328) (hi : i ≤ 140737488355328) :
    Calls Tryd.prog 32 #[v, .int .i64 (i : Int), .int .i64 (n : Int)] w fun e w' => e = .returned (.bool (tt (NeedsOk l i n))) ∧ Below w.heap.size w w' := by
  obtain ⟨ao, cap, rfl, hcap, hn0, hlen, hrow⟩ := h
  have HR : Hid (∀ j, j < l.length → ∃ g o, ao = some ⟨g, o, none⟩ ∧ g < w.heap.size ∧ w.cell? ⟨g, o + j, none⟩ = some (.int .i64 (needAt l j))) := hrow
  clear hrow hn0
  go_enter Tryd.func32, Tryd.ntmps32
  go_wp2
  go_loopw [7] (fun k wr => ∃ m : Nat, m ≤ l.length ∧ k = .int .i64 (m : Int) ∧ Hid (Below w.heap.size w wr) ∧ Hid (∀ j, j < m → NeedOk l i n j)) (fun k _ => l.length - (intOf k).toNat)
  case atStart => exact ⟨0, Nat.zero_le _, rfl, Below.refl _ _, fun j hj => absurd hj (Nat.not_lt_zero _)⟩
  case round =>
    obtain ⟨m, hm, rfl, HB, HN⟩ := hrel
    by_cases hlt : m < l.length
    · obtain ⟨g, o, rfl, hg, c0⟩ := HR.out m hlt
      have d0 : wr.cell? ⟨g, o + m, none⟩ = some (.int .i64 (needAt l m)) := (HB.out.cell (p := ⟨g, o + m, none⟩) hg).trans c0
      have HC : Hid (0 < m → wr.cell? ⟨g, o + (m - 1), none⟩ = some (.int .i64 (needAt l (m - 1)))) := fun h0 => by
        obtain ⟨g', o', e, _, k⟩ := HR.out (m - 1) (by omega)
        cases e
        exact (HB.out.cell (p := ⟨g, o + (m - 1), none⟩) hg).trans k
      have HS : Hid (NeedOk l i n m → ∀ j, j < m + 1 → NeedOk l i n j) := fun h0 j hj => by
        by_cases e : j = m
        · subst e; exact h0
        · exact HN.out j (by omega)
      have HF : Hid (¬ NeedOk l i n m → tt (NeedsOk l i n) = false) := fun h0 => tt_no (fun h1 => h0 (h1 m hlt))
      have hmI : (m : Int) < (l.length : Int) := by omega
      clear c0 HN HR
      have HOK : Hid (NeedOk l i n m ↔ 0 ≤ needAt l m ∧ needAt l m < n ∧ needAt l m ≠ i ∧ (0 < m → needAt l (m - 1) < needAt l m)) := Iff.rfl
      generalize needAt l (m - 1) = y at *
      generalize needAt l m = x at *
      by_cases h1 : x < 0
      · have HE : Hid (tt (NeedsOk l i n) = false) := HF.out (fun h => by have := HOK.out.1 h; omega)
        have h1' : decide (x < 0) = true := by simpa using h1
        clear HOK HF HS HC
        go_wp2
        go_quiet (fail)
        go_wp2
        go_ret
        rw [HE.out]
        exact ⟨rfl, below_drewN HB.out _⟩
      have h1' : decide (x < 0) = false := by simpa using h1
      by_cases h2 : (n : Int) ≤ x
      · have HE : Hid (tt (NeedsOk l i n) = false) := HF.out (fun h => by have := HOK.out.1 h; omega)
        have h2' : decide ((n : Int) ≤ x) = true := by simpa using h2
        clear HOK HF HS HC
        go_wp2
        go_quiet (fail)
        go_wp2
        go_ret
        rw [HE.out]
        exact ⟨rfl, below_drewN HB.out _⟩
      have h2' : decide ((n : Int) ≤ x) = false := by simpa using h2
      by_cases h3 : x = (i : Int)
      · have HE : Hid (tt (NeedsOk l i n) = false) := HF.out (fun h => by have := HOK.out.1 h; omega)
        have h3' : (x == (i : Int)) = true := by simpa using h3
        clear HOK HF HS HC h3
        go_wp2
        go_quiet (fail)
        go_wp2
        go_ret
        rw [HE.out]
        exact ⟨rfl, below_drewN HB.out _⟩
      have h3' : (x == (i : Int)) = false := by simpa using h3
      by_cases h0 : m = 0
      · have HN2 : Hid _ := HS.out (HOK.out.2 ⟨by omega, by omega, h3, fun h => by omega⟩)
        have h0' : ¬ (0 : Int) < (m : Int) := by omega
        have h0'' : decide ((0 : Int) < (m : Int)) = false := by simpa using h0'
        have h0n : decide (0 < m) = false := by simp; omega
        clear HOK HF HS HC h3 h0
        go_wp2
        go_quiet (fail)
        go_wp2
        exact ⟨⟨m + 1, by omega, by go_num, below_drewN HB.out _, HN2⟩, by simp [intOf]; omega⟩
      have h0' : (0 : Int) < (m : Int) := by omega
      have h0'' : decide ((0 : Int) < (m : Int)) = true := by simpa using h0'
      have h0n : decide (0 < m) = true := by simp; omega
      have hmm : ((m : Int) - 1) < (l.length : Int) := by omega
      have hmz : (0 : Int) ≤ (m : Int) - 1 := by omega
      have d1 := HC.out (by omega)
      by_cases h4 : x ≤ y
      · have HE : Hid (tt (NeedsOk l i n) = false) := HF.out (fun h => by have := (HOK.out.1 h).2.2.2 (by omega); omega)
        have h4' : decide (x ≤ y) = true := by simpa using h4
        clear HOK HF HS HC h3 h0
        go_wp2
        go_quiet (fail)
        go_wp2
        go_ret
        rw [HE.out]
        exact ⟨rfl, below_drewN HB.out _⟩
      · have HN2 : Hid _ := HS.out (HOK.out.2 ⟨by omega, by omega, h3, fun h => by omega⟩)
        have h4' : decide (x ≤ y) = false := by simpa using h4
        clear HOK HF HS HC h3 h0
        go_wp2
        go_quiet (fail)
        go_wp2
        exact ⟨⟨m + 1, by omega, by go_num, below_drewN HB.out _, HN2⟩, by simp [intOf]; omega⟩
    · have hml : ¬ (m : Int) < (l.length : Int) := by omega
      have HE : Hid (tt (NeedsOk l i n) = true) := tt_yes (fun k hk => HN.out k (by omega))
      clear HN HR
      go_wp2
      go_ret
      rw [HE.out]
      exact ⟨rfl, HB.out⟩
end Go.Proofs.YtaeakednekbekaaDoor
