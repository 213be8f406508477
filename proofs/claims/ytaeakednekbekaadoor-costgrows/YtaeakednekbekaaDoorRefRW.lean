/- The walk of the document's ring. -/
import Derived.Test.YtaeakednekbekaaDoorRefAW
import Derived.Test.YtaeakednekbekaaDoorSoundM
set_option linter.unusedVariables false
set_option maxRecDepth 100000
namespace Go.Proofs.YtaeakednekbekaaDoor
open Go.RowKit CheckMath
open Go.Proofs.YtaeakednekbekaaDoor.Nm

theorem updB_mono {l : Nat → Bool} {x y : Nat} (h : l y = true) : updB l x true y = true := by unfold updB; split <;> simp [*]
theorem updB_cases {l : Nat → Bool} {x y : Nat} (h : updB l x true y = true) : y = x ∨ l y = true := by
  by_cases e : y = x
  · exact Or.inl e
  · rw [updB_off e] at h; exact Or.inr h
def ClosedB (ss : List StepD) (i : Nat) (C : Nat → Prop) : Prop := ∀ c a, (c = i ∨ C c) → CheckMath.Edge ss c a → C a
def RR (ss : List StepD) (i : Nat) (l0 l : Nat → Bool) (k : Nat) : Prop :=
  (∀ y, l0 y = true → l y = true) ∧ (∀ c, c < k → l0 c = true → ∀ a, CheckMath.Edge ss c a → l a = true) ∧ ∀ C : Nat → Prop, (∀ x, l0 x = true → C x) → ClosedB ss i C → ∀ y, l y = true → C y
def RI (ss : List StepD) (i k : Nat) (l l' : Nat → Bool) (j : Nat) : Prop :=
  (∀ y, l y = true → l' y = true) ∧ (∀ j', j' < j → l' (needAt (nth ss k).needs j').toNat = true) ∧ ∀ C : Nat → Prop, (∀ x, l x = true → C x) → ClosedB ss i C → ∀ y, l' y = true → C y
theorem RR.start (ss : List StepD) (i : Nat) (l : Nat → Bool) : RR ss i l l 0 := ⟨fun y h => h, fun c hc => absurd hc (Nat.not_lt_zero _), fun C h _ => h⟩
theorem RI.start (ss : List StepD) (i k : Nat) (l : Nat → Bool) : RI ss i k l l 0 := ⟨fun y h => h, fun c hc => absurd hc (Nat.not_lt_zero _), fun C h _ => h⟩
theorem RI.step {ss : List StepD} {i k : Nat} {l l' : Nat → Bool} {j x : Nat} (h : RI ss i k l l' j) (hk : l' k = true) (hx : needAt (nth ss k).needs j = (x : Int)) (he : CheckMath.Edge ss k x) : RI ss i k l (updB l' x true) (j + 1) := by
  obtain ⟨h1, h2, h3⟩ := h
  refine ⟨fun y hy => updB_mono (h1 y hy), fun j' hj => ?_, fun C hC hc y hy => ?_⟩
  · by_cases e : j' = j
    · subst e; rw [hx]; exact updB_at _ _ _
    · exact updB_mono (h2 j' (by omega))
  · rcases updB_cases hy with rfl | hy
    · exact hc k y (Or.inr (h3 C hC hc k hk)) he
    · exact h3 C hC hc y hy
theorem RR.more {ss : List StepD} {i k : Nat} {l0 l l' : Nat → Bool} (h : RR ss i l0 l k) (r : RI ss i k l l' (nth ss k).needs.length) : RR ss i l0 l' (k + 1) := by
  obtain ⟨h1, h2, h3⟩ := h
  obtain ⟨r1, r2, r3⟩ := r
  refine ⟨fun y hy => r1 y (h1 y hy), fun c hc hl a he => ?_, fun C hC hcl y hy => r3 C (h3 C hC hcl) hcl y hy⟩
  by_cases e : c = k
  · subst e
    obtain ⟨j, hj, e2⟩ := mem_needAt he.2.2
    have := r2 j hj
    rw [e2] at this
    simpa using this
  · exact r1 a (h2 c (by omega) hl a he)
theorem RR.skip {ss : List StepD} {i k : Nat} {l0 l : Nat → Bool} (h : RR ss i l0 l k) (hk : l k = false) : RR ss i l0 l (k + 1) := by
  obtain ⟨h1, h2, h3⟩ := h
  refine ⟨h1, fun c hc hl a he => ?_, h3⟩
  by_cases e : c = k
  · subst e; have := h1 c hl; rw [hk] at this; cases this
  · exact h2 c (by omega) hl a he
/-- What stands at a round's beginning. -/
def RgInv (ss : List StepD) (i r : Nat) (l : Nat → Bool) : Prop := RoundInv (CheckMath.Edge ss) i ss.length r (fun y => l y = true) ∧ ∀ y, CheckMath.Edge ss i y → l y = true
theorem RgInv.step {ss : List StepD} {i r : Nat} {l l' : Nat → Bool} (h : RgInv ss i r l) (k : RR ss i l l' ss.length) : RgInv ss i (r + 1) l' := by
  obtain ⟨h1, h2⟩ := h
  obtain ⟨k1, k2, k3⟩ := k
  refine ⟨h1.step edge_lt ⟨k1, ?_, k3⟩, fun y hy => k1 y (h2 y hy)⟩
  rintro c a (rfl | hc) he
  · exact k1 a (h2 a he)
  · exact k2 c he.1 hc a he
theorem RgInv.done {ss : List StepD} {i : Nat} {l : Nat → Bool} (h : RgInv ss i ss.length l) : tt (Ring ss i) = l i := by
  have := h.1.done edge_lt i
  cases e : l i with
  | true => exact tt_yes (this.1 e)
  | false => exact tt_no (fun hp => by have := this.2 hp; rw [e] at this; cases this)

set_option maxHeartbeats 10000000 in
theorem refRing_any (v : Value) (D : DefD) (h8 : D.steps.length ≤ 8) (hN : Needy D.steps) (i : Nat) (hi : i < D.steps.length) (w : World) (h : DefIn w v D) :
    Calls Tryd.prog 34 #[v, .int .i64 (i : Int)] w fun e w' => e = .returned (.bool (tt (Ring D.steps i))) ∧ Below w.heap.size w w' := by
  obtain ⟨sv, rfl, hd⟩ := h
  obtain ⟨ao, cap, rfl, hcap, hn0, hlen, hrow⟩ := hd
  obtain ⟨g, o, rfl, hg, _⟩ := hrow i hi
  have HR : Hid (∀ j, j < D.steps.length → StepIn w g (o + j * 5) (nth D.steps j)) := fun j hj => by
    obtain ⟨g', o', e, _, k⟩ := hrow j hj
    cases e
    exact k
  have HNY : Hid (Needy D.steps) := hN
  have HED : Hid (∀ a, a < D.steps.length → ∀ j, j < (nth D.steps a).needs.length → ∃ x : Nat, needAt (nth D.steps a).needs j = (x : Int) ∧ x < D.steps.length ∧ CheckMath.Edge D.steps a x) := fun a ha j hj => by
    obtain ⟨h0, h1, _⟩ := hN a ha _ (needAt_mem hj)
    refine ⟨(needAt (nth D.steps a).needs j).toNat, (Int.toNat_of_nonneg h0).symm, by omega, ha, by omega, ?_⟩
    rw [Int.toNat_of_nonneg h0]; exact needAt_mem hj
  obtain ⟨w3, hmk, hg0⟩ := mk_bools (w.alloc (.cells #[.string D.name, .slice (some ⟨g, o, none⟩) D.steps.length cap] 24)) D.steps.length h8
  have HG0 : Hid (GoneAt (w.alloc (.cells #[.string D.name, .slice (some ⟨g, o, none⟩) D.steps.length cap] 24)) D.steps.length (fun _ => false) w3) := hg0
  have HW : Hid (∀ l wq, GoneAt (w.alloc (.cells #[.string D.name, .slice (some ⟨g, o, none⟩) D.steps.length cap] 24)) D.steps.length l wq → Below w.heap.size w wq ∧ wq.cell? ⟨w.heap.size, 1, none⟩ = some (.slice (some ⟨g, o, none⟩) D.steps.length cap) ∧
      (∀ a, a < D.steps.length → ∃ na nc, wq.cell? ⟨g, o + a * 5 + 4, none⟩ = some (.slice na (nth D.steps a).needs.length nc) ∧ (nth D.steps a).needs.length ≤ 140737488355328 ∧ (nth D.steps a).needs.length ≤ nc ∧ ∀ j, j < (nth D.steps a).needs.length → ∃ g o, na = some ⟨g, o, none⟩ ∧ wq.cell? ⟨g, o + j, none⟩ = some (.int .i64 (needAt (nth D.steps a).needs j)))) := fun l wq hq => by
    obtain ⟨k1, k2, k3⟩ := box_def wq hq.bel
    refine ⟨k1, k3, fun a ha => ?_⟩
    obtain ⟨_, _, _, kv, nv, _, c4, _, c6⟩ := (HR.out a ha).below hg k1
    obtain ⟨na, nc, rfl, hnc, _, hnl, hnr⟩ := c6
    exact ⟨na, nc, c4, hnl, hnc, fun j hj => by obtain ⟨g2, o2, e1, _, e3⟩ := hnr j hj; exact ⟨g2, o2, e1, e3⟩⟩
  have hs1 : (w.alloc (.cells #[.string D.name, .slice (some ⟨g, o, none⟩) D.steps.length cap] 24)).heap.size = w.heap.size + 1 := by simp
  have hiI : (i : Int) < (D.steps.length : Int) := by omega
  have HDONE : Hid (∀ l, RgInv D.steps i D.steps.length l → tt (Ring D.steps i) = l i) := fun l h => h.done
  rw [hs1] at hmk
  clear hrow hn0 hg0 hN
  generalize tt (Ring D.steps i) = rg at *
  go_enter Tryd.func34, Tryd.ntmps34
  go_wp2
  generalize hwa : (w.alloc (.cells #[.string D.name, .slice (some ⟨g, o, none⟩) D.steps.length cap] 24)) = w0 at *
  have HS1 : Hid (w0.heap.size = w.heap.size + 1) := hs1
  clear hmk hwa hs1
  go_loopw [6] (fun k wq => ∃ (n : Nat) (l : Nat → Bool), n ≤ (nth D.steps i).needs.length ∧ k = .int .i64 (n : Int) ∧ Hid (GoneAt w0 D.steps.length l wq) ∧ Hid (∀ y, l y = true ↔ ∃ j, j < n ∧ needAt (nth D.steps i).needs j = (y : Int))) (fun k _ => (nth D.steps i).needs.length - (intOf k).toNat)
  case atStart => exact ⟨0, _, Nat.zero_le _, rfl, HG0, fun y => ⟨fun h => (by cases h), fun ⟨j, hj, _⟩ => absurd hj (Nat.not_lt_zero _)⟩⟩
  case round =>
    obtain ⟨n, l, hn, rfl, HG1, HL⟩ := hrel
    obtain ⟨hbw, p1, p2⟩ := HW.out _ _ HG1.out
    obtain ⟨na, nc, s4, hnl, hnc, hnr⟩ := p2 i hi
    clear hbw p2 HG0
    by_cases hlt : n < (nth D.steps i).needs.length
    · obtain ⟨g2, o2, rfl, e1⟩ := hnr n hlt
      obtain ⟨x, hx, hxl, hed⟩ := HED.out i hi n hlt
      rw [hx] at e1
      obtain ⟨t1, t2⟩ := HG1.out.cell x hxl
      rw [HS1.out] at t1 t2
      have HSET : Hid (GoneAt w0 D.steps.length (updB l x true) (wr.setCell ⟨w.heap.size + 1, x, none⟩ (.bool true))) := by have := HG1.out.set x true; rwa [HS1.out] at this
      have HL2 : Hid (∀ y, updB l x true y = true ↔ ∃ j, j < n + 1 ∧ needAt (nth D.steps i).needs j = (y : Int)) := fun y => by
        constructor
        · intro h
          rcases updB_cases h with rfl | h
          · exact ⟨n, by omega, hx⟩
          · obtain ⟨j, hj, e⟩ := (HL.out y).1 h
            exact ⟨j, by omega, e⟩
        · rintro ⟨j, hj, e⟩
          by_cases ej : j = n
          · subst ej
            have : y = x := by rw [hx] at e; omega
            subst this
            exact updB_at _ _ _
          · exact updB_mono ((HL.out y).2 ⟨j, by omega, e⟩)
      have hltI : (n : Int) < ((nth D.steps i).needs.length : Int) := by omega
      have hxI : (x : Int) < (D.steps.length : Int) := by omega
      clear hnr hx hed HL
      go_wp2
      exact ⟨⟨n + 1, _, by omega, by go_num, HSET, HL2⟩, by simp [intOf]; omega⟩
    · have hltI : ¬ (n : Int) < ((nth D.steps i).needs.length : Int) := by omega
      have HI0 : Hid (RgInv D.steps i 0 l) := by
        have hl : ∀ y, l y = true ↔ CheckMath.Edge D.steps i y := fun y => by
          rw [HL.out y]
          constructor
          · rintro ⟨j, hj, e⟩
            obtain ⟨x, hx, hxl, hed⟩ := HED.out i hi j (by omega)
            have : y = x := by rw [hx] at e; omega
            subst this
            exact hed
          · intro he
            obtain ⟨j, hj, e⟩ := mem_needAt he.2.2
            exact ⟨j, by omega, e⟩
        exact ⟨⟨fun y hy => .one ((hl y).1 hy), Or.inr (Nat.zero_le _)⟩, fun y hy => (hl y).2 hy⟩
      clear hnr HL
      go_wp2_with fail
      clear p1 s4
      go_loopw [7, 8, 9] (fun r _ _ wq => ∃ (n : Nat) (l : Nat → Bool), n ≤ D.steps.length ∧ r = .int .i64 (n : Int) ∧ Hid (GoneAt w0 D.steps.length l wq) ∧ Hid (RgInv D.steps i n l)) (fun r _ _ _ => D.steps.length - (intOf r).toNat)
      case atStart => exact ⟨0, l, Nat.zero_le _, rfl, HG1, HI0⟩
      case round =>
        obtain ⟨r, l0, hr, rfl, HG2, HI⟩ := hrel
        obtain ⟨hbw, p1, p2⟩ := HW.out _ _ HG2.out
        clear p2
        by_cases hltr : r < D.steps.length
        · have hltR : (r : Int) < (D.steps.length : Int) := by omega
          go_wp2_with fail
          clear p1 hbw
          go_loopw [8, 9] (fun k _ wq => ∃ (n : Nat) (l : Nat → Bool), n ≤ D.steps.length ∧ k = .int .i64 (n : Int) ∧ Hid (GoneAt w0 D.steps.length l wq) ∧ Hid (RR D.steps i l0 l n)) (fun k _ _ => D.steps.length - (intOf k).toNat)
          case atStart => exact ⟨0, l0, Nat.zero_le _, rfl, HG2, RR.start _ _ _⟩
          case round =>
            obtain ⟨k, l1, hk, rfl, HG3, HRR⟩ := hrel
            obtain ⟨hbw, p1, p2⟩ := HW.out _ _ HG3.out
            clear hbw
            by_cases hltk : k < D.steps.length
            · have hltK : (k : Int) < (D.steps.length : Int) := by omega
              clear p2
              go_wp2_with fail
              clear p1
              go_loopw [9] (fun j wq => ∃ (n : Nat) (l : Nat → Bool), n ≤ (nth D.steps k).needs.length ∧ j = .int .i64 (n : Int) ∧ Hid (GoneAt w0 D.steps.length l wq) ∧ Hid (RI D.steps i k l1 l n) ∧ Hid (l1 k = false → l = l1)) (fun j _ => (nth D.steps k).needs.length - (intOf j).toNat)
              case atStart => exact ⟨0, l1, Nat.zero_le _, rfl, HG3, RI.start _ _ _ _, fun _ => rfl⟩
              case round =>
                obtain ⟨j, l2, hj, rfl, HG4, HRI, HSM⟩ := hrel
                obtain ⟨hbw, p1, p2⟩ := HW.out _ _ HG4.out
                obtain ⟨na, nc, s4, hnl, hnc, hnr⟩ := p2 k hltk
                obtain ⟨t1, t2⟩ := HG4.out.cell k hltk
                rw [HS1.out] at t1
                clear hbw p2 t2
                by_cases hltj : j < (nth D.steps k).needs.length
                · have hltJ : (j : Int) < ((nth D.steps k).needs.length : Int) := by omega
                  by_cases hlk : l2 k = true
                  · obtain ⟨g2, o2, rfl, e1⟩ := hnr j hltj
                    obtain ⟨x, hx, hxl, hed⟩ := HED.out k hltk j hltj
                    rw [hx] at e1
                    obtain ⟨t3, t4⟩ := HG4.out.cell x hxl
                    rw [HS1.out] at t3 t4
                    have HSET : Hid (GoneAt w0 D.steps.length (updB l2 x true) (wr.setCell ⟨w.heap.size + 1, x, none⟩ (.bool true))) := by have := HG4.out.set x true; rwa [HS1.out] at this
                    have HRI2 : Hid (RI D.steps i k l1 (updB l2 x true) (j + 1)) := HRI.out.step hlk hx hed
                    have HSM2 : Hid (l1 k = false → updB l2 x true = l1) := fun h => by
                      have h2 := HSM.out h
                      rw [h2, h] at hlk
                      cases hlk
                    have hxI : (x : Int) < (D.steps.length : Int) := by omega
                    rw [hlk] at t1
                    clear hnr hx hed HRI HSM hlk
                    go_wp2
                    exact ⟨⟨j + 1, _, by omega, by go_num, HSET, HRI2, HSM2⟩, by simp [intOf]; omega⟩
                  · have hlk' : l2 k = false := by simpa using hlk
                    have HRR2 : Hid (RR D.steps i l0 l2 (k + 1)) := by
                      have hl1 : l1 k = false := by
                        cases e : l1 k with
                        | false => rfl
                        | true => have := HRI.out.1 k e; rw [hlk'] at this; cases this
                      have h2 := HSM.out hl1
                      show RR _ _ _ _ _
                      rw [h2]
                      exact HRR.out.skip hl1
                    rw [hlk'] at t1
                    clear hnr HRI HSM hlk hlk' HRR
                    go_wp2
                    exact ⟨⟨k + 1, l2, by omega, by go_num, HG4, HRR2⟩, by simp [intOf]; omega⟩
                · have hltJ : ¬ (j : Int) < ((nth D.steps k).needs.length : Int) := by omega
                  have HRR2 : Hid (RR D.steps i l0 l2 (k + 1)) := HRR.out.more (by rw [show (nth D.steps k).needs.length = j by omega]; exact HRI.out)
                  clear hnr HRI HSM HRR
                  go_wp2
                  exact ⟨⟨k + 1, l2, by omega, by go_num, HG4, HRR2⟩, by simp [intOf]; omega⟩
            · have hltK : ¬ (k : Int) < (D.steps.length : Int) := by omega
              have HI2 : Hid (RgInv D.steps i (r + 1) l1) := HI.out.step (by rw [show D.steps.length = k by omega]; exact HRR.out)
              clear p2
              go_wp2
              exact ⟨⟨r + 1, l1, by omega, by go_num, HG3, HI2⟩, by simp [intOf]; omega⟩
        · have hltR : ¬ (r : Int) < (D.steps.length : Int) := by omega
          obtain ⟨t1, _⟩ := HG2.out.cell i hi
          rw [HS1.out] at t1
          have HE : Hid (rg = l0 i) := HDONE.out l0 (by have := HI.out; rwa [show r = D.steps.length by omega] at this)
          go_wp2
          go_ret
          rw [HE.out]
          exact ⟨rfl, hbw⟩
end Go.Proofs.YtaeakednekbekaaDoor
