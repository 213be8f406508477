/- The texts RefRW, RefLW, RefCW, RefTW, RefXW, RefDW, RefHW, one behind the other. -/
import Derived.Test.YtmjnllldjeeigaaDoorPkE
/- The walk of the document's ring. -/
set_option linter.unusedVariables false
set_option maxRecDepth 100000
namespace Go.Proofs.YtmjnllldjeeigaaDoor
open Go.RowKit CheckMath
open Go.Proofs.YtmjnllldjeeigaaDoor.Nm

theorem updB_mono {l : Nat → Bool} {x y : Nat} (h : l y = true) : updB l x true y = true := by unfold updB; split <;> simp [*]
theorem updB_cases {l : Nat → Bool} {x y : Nat} (h : updB l x true y = true) : y = x ∨ l y = true := by
  by_cases e : y = x
  · exact Or.inl e
  · rw [updB_off e] at h; exact Or.inr h
def ClosedB (ss : List StepD) (i : Nat) (C : Nat → Prop) : Prop := ∀ c a, (c = i ∨ C c) → CheckMath.Edge ss c a → C a
def RR (ss : List StepD) (i : Nat) (l0 l : Nat → Bool) (k : Nat) : Prop :=
  (∀ y, l0 y = true → l y = true) ∧ (∀ c, c < k → l0 c = true → ∀ a, CheckMath.Edge ss c a → l a = true) ∧ ∀ C : Nat → Prop, (∀ x, l0 x = true → C x) → ClosedB ss i C → ∀ y, l y = true → C y
def RI (ss : List StepD) (i k : Nat) (l l' : Nat → Bool) (j : Nat) : Prop :=
  (∀ y, l y = true → l' y = true) ∧ (∀ j', j' < j → l' (needAt (nth ss k).needs j').toNat = true) ∧ ∀ C : Nat → Prop, (∀ x, l x = true → C x) → ClosedB ss i C → ∀ y, l' y = true → C y
theorem RR.start (ss : List StepD) (i : Nat) (l : Nat → Bool) : RR ss i l l 0 := ⟨fun y h => h, fun c hc => absurd hc (Nat.not_lt_zero _), fun C h _ => h⟩
theorem RI.start (ss : List StepD) (i k : Nat) (l : Nat → Bool) : RI ss i k l l 0 := ⟨fun y h => h, fun c hc => absurd hc (Nat.not_lt_zero _), fun C h _ => h⟩
theorem RI.step {ss : List StepD} {i k : Nat} {l l' : Nat → Bool} {j x : Nat} (h : RI ss i k l l' j) (hk : l' k = true) (hx : needAt (nth ss k).needs j = (x : Int)) (he : CheckMath.Edge ss k x) : RI ss i k l (updB l' x true) (j + 1) := by
  obtain ⟨h1, h2, h3⟩ := h
  refine ⟨fun y hy => updB_mono (h1 y hy), fun j' hj => ?_, fun C hC hc y hy => ?_⟩
  · by_cases e : j' = j
    · subst e; rw [hx]; exact updB_at _ _ _
    · exact updB_mono (h2 j' (by omega))
  · rcases updB_cases hy with rfl | hy
    · exact hc k y (Or.inr (h3 C hC hc k hk)) he
    · exact h3 C hC hc y hy
theorem RR.more {ss : List StepD} {i k : Nat} {l0 l l' : Nat → Bool} (h : RR ss i l0 l k) (r : RI ss i k l l' (nth ss k).needs.length) : RR ss i l0 l' (k + 1) := by
  obtain ⟨h1, h2, h3⟩ := h
  obtain ⟨r1, r2, r3⟩ := r
  refine ⟨fun y hy => r1 y (h1 y hy), fun c hc hl a he => ?_, fun C hC hcl y hy => r3 C (h3 C hC hcl) hcl y hy⟩
  by_cases e : c = k
  · subst e
    obtain ⟨j, hj, e2⟩ := mem_needAt he.2.2
    have := r2 j hj
    rw [e2] at this
    simpa using this
  · exact r1 a (h2 c (by omega) hl a he)
theorem RR.skip {ss : List StepD} {i k : Nat} {l0 l : Nat → Bool} (h : RR ss i l0 l k) (hk : l k = false) : RR ss i l0 l (k + 1) := by
  obtain ⟨h1, h2, h3⟩ := h
  refine ⟨h1, fun c hc hl a he => ?_, h3⟩
  by_cases e : c = k
  · subst e; have := h1 c hl; rw [hk] at this; cases this
  · exact h2 c (by omega) hl a he
/-- What stands at a round's beginning. -/
def RgInv (ss : List StepD) (i r : Nat) (l : Nat → Bool) : Prop := RoundInv (CheckMath.Edge ss) i ss.length r (fun y => l y = true) ∧ ∀ y, CheckMath.Edge ss i y → l y = true
theorem RgInv.step {ss : List StepD} {i r : Nat} {l l' : Nat → Bool} (h : RgInv ss i r l) (k : RR ss i l l' ss.length) : RgInv ss i (r + 1) l' := by
  obtain ⟨h1, h2⟩ := h
  obtain ⟨k1, k2, k3⟩ := k
  refine ⟨h1.step edge_lt ⟨k1, ?_, k3⟩, fun y hy => k1 y (h2 y hy)⟩
  rintro c a (rfl | hc) he
  · exact k1 a (h2 a he)
  · exact k2 c he.1 hc a he
theorem RgInv.done {ss : List StepD} {i : Nat} {l : Nat → Bool} (h : RgInv ss i ss.length l) : tt (Ring ss i) = l i := by
  have := h.1.done edge_lt i
  cases e : l i with
  | true => exact tt_yes (this.1 e)
  | false => exact tt_no (fun hp => by have := this.2 hp; rw [e] at this; cases this)

set_option maxHeartbeats 10000000 in
theorem refRing_any (v : Value) (D : DefD) (h8 : D.steps.length ≤ 8) (hN : Needy D.steps) (i : Nat) (hi : i < D.steps.length) (w : World) (h : DefIn w v D) :
    Calls Tryd.prog 59 #[v, .int .i64 (i : Int)] w fun e w' => e = .returned (.bool (tt (Ring D.steps i))) ∧ Below w.heap.size w w' := by
  obtain ⟨sv, rfl, hd⟩ := h
  obtain ⟨ao, cap, rfl, hcap, hn0, hlen, hrow⟩ := hd
  obtain ⟨g, o, rfl, hg, _⟩ := hrow i hi
  have HR : Hid (∀ j, j < D.steps.length → StepIn w g (o + j * 5) (nth D.steps j)) := fun j hj => by
    obtain ⟨g', o', e, _, k⟩ := hrow j hj
    cases e
    exact k
  have HNY : Hid (Needy D.steps) := hN
  have HED : Hid (∀ a, a < D.steps.length → ∀ j, j < (nth D.steps a).needs.length → ∃ x : Nat, needAt (nth D.steps a).needs j = (x : Int) ∧ x < D.steps.length ∧ CheckMath.Edge D.steps a x) := fun a ha j hj => by
    obtain ⟨h0, h1, _⟩ := hN a ha _ (needAt_mem hj)
    refine ⟨(needAt (nth D.steps a).needs j).toNat, (Int.toNat_of_nonneg h0).symm, by omega, ha, by omega, ?_⟩
    rw [Int.toNat_of_nonneg h0]; exact needAt_mem hj
  obtain ⟨w3, hmk, hg0⟩ := mk_bools (w.alloc (.cells #[.string D.name, .slice (some ⟨g, o, none⟩) D.steps.length cap] 24)) D.steps.length h8
  have HG0 : Hid (GoneAt (w.alloc (.cells #[.string D.name, .slice (some ⟨g, o, none⟩) D.steps.length cap] 24)) D.steps.length (fun _ => false) w3) := hg0
  have HW : Hid (∀ l wq, GoneAt (w.alloc (.cells #[.string D.name, .slice (some ⟨g, o, none⟩) D.steps.length cap] 24)) D.steps.length l wq → Below w.heap.size w wq ∧ wq.cell? ⟨w.heap.size, 1, none⟩ = some (.slice (some ⟨g, o, none⟩) D.steps.length cap) ∧
      (∀ a, a < D.steps.length → ∃ na nc, wq.cell? ⟨g, o + a * 5 + 4, none⟩ = some (.slice na (nth D.steps a).needs.length nc) ∧ (nth D.steps a).needs.length ≤ 140737488355328 ∧ (nth D.steps a).needs.length ≤ nc ∧ ∀ j, j < (nth D.steps a).needs.length → ∃ g o, na = some ⟨g, o, none⟩ ∧ wq.cell? ⟨g, o + j, none⟩ = some (.int .i64 (needAt (nth D.steps a).needs j)))) := fun l wq hq => by
    obtain ⟨k1, k2, k3⟩ := box_def wq hq.bel
    refine ⟨k1, k3, fun a ha => ?_⟩
    obtain ⟨_, _, _, kv, nv, _, c4, _, c6⟩ := (HR.out a ha).below hg k1
    obtain ⟨na, nc, rfl, hnc, _, hnl, hnr⟩ := c6
    exact ⟨na, nc, c4, hnl, hnc, fun j hj => by obtain ⟨g2, o2, e1, _, e3⟩ := hnr j hj; exact ⟨g2, o2, e1, e3⟩⟩
  have hs1 : (w.alloc (.cells #[.string D.name, .slice (some ⟨g, o, none⟩) D.steps.length cap] 24)).heap.size = w.heap.size + 1 := by simp
  have hiI : (i : Int) < (D.steps.length : Int) := by omega
  have HDONE : Hid (∀ l, RgInv D.steps i D.steps.length l → tt (Ring D.steps i) = l i) := fun l h => h.done
  rw [hs1] at hmk
  clear hrow hn0 hg0 hN
  generalize tt (Ring D.steps i) = rg at *
  go_enter Tryd.func59, Tryd.ntmps59
  go_wp2
  generalize hwa : (w.alloc (.cells #[.string D.name, .slice (some ⟨g, o, none⟩) D.steps.length cap] 24)) = w0 at *
  have HS1 : Hid (w0.heap.size = w.heap.size + 1) := hs1
  clear hmk hwa hs1
  go_loopw [6] (fun k wq => ∃ (n : Nat) (l : Nat → Bool), n ≤ (nth D.steps i).needs.length ∧ k = .int .i64 (n : Int) ∧ Hid (GoneAt w0 D.steps.length l wq) ∧ Hid (∀ y, l y = true ↔ ∃ j, j < n ∧ needAt (nth D.steps i).needs j = (y : Int))) (fun k _ => (nth D.steps i).needs.length - (intOf k).toNat)
  case atStart => exact ⟨0, _, Nat.zero_le _, rfl, HG0, fun y => ⟨fun h => (by cases h), fun ⟨j, hj, _⟩ => absurd hj (Nat.not_lt_zero _)⟩⟩
  case round =>
    obtain ⟨n, l, hn, rfl, HG1, HL⟩ := hrel
    obtain ⟨hbw, p1, p2⟩ := HW.out _ _ HG1.out
    obtain ⟨na, nc, s4, hnl, hnc, hnr⟩ := p2 i hi
    clear hbw p2 HG0
    by_cases hlt : n < (nth D.steps i).needs.length
    · obtain ⟨g2, o2, rfl, e1⟩ := hnr n hlt
      obtain ⟨x, hx, hxl, hed⟩ := HED.out i hi n hlt
      rw [hx] at e1
      obtain ⟨t1, t2⟩ := HG1.out.cell x hxl
      rw [HS1.out] at t1 t2
      have HSET : Hid (GoneAt w0 D.steps.length (updB l x true) (wr.setCell ⟨w.heap.size + 1, x, none⟩ (.bool true))) := by have := HG1.out.set x true; rwa [HS1.out] at this
      have HL2 : Hid (∀ y, updB l x true y = true ↔ ∃ j, j < n + 1 ∧ needAt (nth D.steps i).needs j = (y : Int)) := fun y => by
        constructor
        · intro h
          rcases updB_cases h with rfl | h
          · exact ⟨n, by omega, hx⟩
          · obtain ⟨j, hj, e⟩ := (HL.out y).1 h
            exact ⟨j, by omega, e⟩
        · rintro ⟨j, hj, e⟩
          by_cases ej : j = n
          · subst ej
            have : y = x := by rw [hx] at e; omega
            subst this
            exact updB_at _ _ _
          · exact updB_mono ((HL.out y).2 ⟨j, by omega, e⟩)
      have hltI : (n : Int) < ((nth D.steps i).needs.length : Int) := by omega
      have hxI : (x : Int) < (D.steps.length : Int) := by omega
      clear hnr hx hed HL
      go_wp2
      exact ⟨⟨n + 1, _, by omega, by go_num, HSET, HL2⟩, by simp [intOf]; omega⟩
    · have hltI : ¬ (n : Int) < ((nth D.steps i).needs.length : Int) := by omega
      have HI0 : Hid (RgInv D.steps i 0 l) := by
        have hl : ∀ y, l y = true ↔ CheckMath.Edge D.steps i y := fun y => by
          rw [HL.out y]
          constructor
          · rintro ⟨j, hj, e⟩
            obtain ⟨x, hx, hxl, hed⟩ := HED.out i hi j (by omega)
            have : y = x := by rw [hx] at e; omega
            subst this
            exact hed
          · intro he
            obtain ⟨j, hj, e⟩ := mem_needAt he.2.2
            exact ⟨j, by omega, e⟩
        exact ⟨⟨fun y hy => .one ((hl y).1 hy), Or.inr (Nat.zero_le _)⟩, fun y hy => (hl y).2 hy⟩
      clear hnr HL
      go_wp2_with fail
      clear p1 s4
      go_loopw [7, 8, 9] (fun r _ _ wq => ∃ (n : Nat) (l : Nat → Bool), n ≤ D.steps.length ∧ r = .int .i64 (n : Int) ∧ Hid (GoneAt w0 D.steps.length l wq) ∧ Hid (RgInv D.steps i n l)) (fun r _ _ _ => D.steps.length - (intOf r).toNat)
      case atStart => exact ⟨0, l, Nat.zero_le _, rfl, HG1, HI0⟩
      case round =>
        obtain ⟨r, l0, hr, rfl, HG2, HI⟩ := hrel
        obtain ⟨hbw, p1, p2⟩ := HW.out _ _ HG2.out
        clear p2
        by_cases hltr : r < D.steps.length
        · have hltR : (r : Int) < (D.steps.length : Int) := by omega
          go_wp2_with fail
          clear p1 hbw
          go_loopw [8, 9] (fun k _ wq => ∃ (n : Nat) (l : Nat → Bool), n ≤ D.steps.length ∧ k = .int .i64 (n : Int) ∧ Hid (GoneAt w0 D.steps.length l wq) ∧ Hid (RR D.steps i l0 l n)) (fun k _ _ => D.steps.length - (intOf k).toNat)
          case atStart => exact ⟨0, l0, Nat.zero_le _, rfl, HG2, RR.start _ _ _⟩
          case round =>
            obtain ⟨k, l1, hk, rfl, HG3, HRR⟩ := hrel
            obtain ⟨hbw, p1, p2⟩ := HW.out _ _ HG3.out
            clear hbw
            by_cases hltk : k < D.steps.length
            · have hltK : (k : Int) < (D.steps.length : Int) := by omega
              clear p2
              go_wp2_with fail
              clear p1
              go_loopw [9] (fun j wq => ∃ (n : Nat) (l : Nat → Bool), n ≤ (nth D.steps k).needs.length ∧ j = .int .i64 (n : Int) ∧ Hid (GoneAt w0 D.steps.length l wq) ∧ Hid (RI D.steps i k l1 l n) ∧ Hid (l1 k = false → l = l1)) (fun j _ => (nth D.steps k).needs.length - (intOf j).toNat)
              case atStart => exact ⟨0, l1, Nat.zero_le _, rfl, HG3, RI.start _ _ _ _, fun _ => rfl⟩
              case round =>
                obtain ⟨j, l2, hj, rfl, HG4, HRI, HSM⟩ := hrel
                obtain ⟨hbw, p1, p2⟩ := HW.out _ _ HG4.out
                obtain ⟨na, nc, s4, hnl, hnc, hnr⟩ := p2 k hltk
                obtain ⟨t1, t2⟩ := HG4.out.cell k hltk
                rw [HS1.out] at t1
                clear hbw p2 t2
                by_cases hltj : j < (nth D.steps k).needs.length
                · have hltJ : (j : Int) < ((nth D.steps k).needs.length : Int) := by omega
                  by_cases hlk : l2 k = true
                  · obtain ⟨g2, o2, rfl, e1⟩ := hnr j hltj
                    obtain ⟨x, hx, hxl, hed⟩ := HED.out k hltk j hltj
                    rw [hx] at e1
                    obtain ⟨t3, t4⟩ := HG4.out.cell x hxl
                    rw [HS1.out] at t3 t4
                    have HSET : Hid (GoneAt w0 D.steps.length (updB l2 x true) (wr.setCell ⟨w.heap.size + 1, x, none⟩ (.bool true))) := by have := HG4.out.set x true; rwa [HS1.out] at this
                    have HRI2 : Hid (RI D.steps i k l1 (updB l2 x true) (j + 1)) := HRI.out.step hlk hx hed
                    have HSM2 : Hid (l1 k = false → updB l2 x true = l1) := fun h => by
                      have h2 := HSM.out h
                      rw [h2, h] at hlk
                      cases hlk
                    have hxI : (x : Int) < (D.steps.length : Int) := by omega
                    rw [hlk] at t1
                    clear hnr hx hed HRI HSM hlk
                    go_wp2
                    exact ⟨⟨j + 1, _, by omega, by go_num, HSET, HRI2, HSM2⟩, by simp [intOf]; omega⟩
                  · have hlk' : l2 k = false := by simpa using hlk
                    have HRR2 : Hid (RR D.steps i l0 l2 (k + 1)) := by
                      have hl1 : l1 k = false := by
                        cases e : l1 k with
                        | false => rfl
                        | true => have := HRI.out.1 k e; rw [hlk'] at this; cases this
                      have h2 := HSM.out hl1
                      show RR _ _ _ _ _
                      rw [h2]
                      exact HRR.out.skip hl1
                    rw [hlk'] at t1
                    clear hnr HRI HSM hlk hlk' HRR
                    go_wp2
                    exact ⟨⟨k + 1, l2, by omega, by go_num, HG4, HRR2⟩, by simp [intOf]; omega⟩
                · have hltJ : ¬ (j : Int) < ((nth D.steps k).needs.length : Int) := by omega
                  have HRR2 : Hid (RR D.steps i l0 l2 (k + 1)) := HRR.out.more (by rw [show (nth D.steps k).needs.length = j by omega]; exact HRI.out)
                  clear hnr HRI HSM HRR
                  go_wp2
                  exact ⟨⟨k + 1, l2, by omega, by go_num, HG4, HRR2⟩, by simp [intOf]; omega⟩
            · have hltK : ¬ (k : Int) < (D.steps.length : Int) := by omega
              have HI2 : Hid (RgInv D.steps i (r + 1) l1) := HI.out.step (by rw [show D.steps.length = k by omega]; exact HRR.out)
              clear p2
              go_wp2
              exact ⟨⟨r + 1, l1, by omega, by go_num, HG3, HI2⟩, by simp [intOf]; omega⟩
        · have hltR : ¬ (r : Int) < (D.steps.length : Int) := by omega
          obtain ⟨t1, _⟩ := HG2.out.cell i hi
          rw [HS1.out] at t1
          have HE : Hid (rg = l0 i) := HDONE.out l0 (by have := HI.out; rwa [show r = D.steps.length by omega] at this)
          go_wp2
          go_ret
          rw [HE.out]
          exact ⟨rfl, hbw⟩
end Go.Proofs.YtmjnllldjeeigaaDoor

/- The walk of the document's loose. -/
set_option linter.unusedVariables false
set_option maxRecDepth 100000
namespace Go.Proofs.YtmjnllldjeeigaaDoor
open Go.RowKit CheckMath
open Go.Proofs.YtmjnllldjeeigaaDoor.Nm

def TakenTo (ss : List StepD) (y : ByteArray) (n : Nat) : Prop := ∃ c, c < n ∧ (nth ss c).kind ≠ 3 ∧ y ∈ (nth ss c).keys
def TakenIn (ss : List StepD) (y : ByteArray) (n m : Nat) : Prop := TakenTo ss y n ∨ ∃ m', m' < m ∧ keyAt (nth ss n).keys m' = y
theorem takenTo_more {ss : List StepD} {y : ByteArray} {n m : Nat} (hk : (nth ss n).kind ≠ 3) (hm : m = (nth ss n).keys.length) : TakenIn ss y n m ↔ TakenTo ss y (n + 1) := by
  subst hm
  constructor
  · rintro (⟨c, hc, h⟩ | ⟨m', hm, e⟩)
    · exact ⟨c, by omega, h⟩
    · exact ⟨n, by omega, hk, by rw [← e]; exact keyAt_mem hm⟩
  · rintro ⟨c, hc, h1, h2⟩
    by_cases e : c = n
    · subst e
      obtain ⟨k, hk, e⟩ := mem_keyAt h2
      exact Or.inr ⟨k, hk, e⟩
    · exact Or.inl ⟨c, by omega, h1, h2⟩
theorem takenTo_skip {ss : List StepD} {y : ByteArray} {n : Nat} (hk : (nth ss n).kind = 3) : TakenTo ss y n ↔ TakenTo ss y (n + 1) := by
  constructor
  · rintro ⟨c, hc, h⟩; exact ⟨c, by omega, h⟩
  · rintro ⟨c, hc, h1, h2⟩
    by_cases e : c = n
    · subst e; exact absurd hk h1
    · exact ⟨c, by omega, h1, h2⟩
theorem takenIn_more {ss : List StepD} {y : ByteArray} {n m : Nat} : TakenIn ss y n (m + 1) ↔ TakenIn ss y n m ∨ keyAt (nth ss n).keys m = y := by
  constructor
  · rintro (h | ⟨m', hm, e⟩)
    · exact Or.inl (Or.inl h)
    · by_cases e2 : m' = m
      · subst e2; exact Or.inr e
      · exact Or.inl (Or.inr ⟨m', by omega, e⟩)
  · rintro ((h | ⟨m', hm, e⟩) | h)
    · exact Or.inl h
    · exact Or.inr ⟨m', by omega, e⟩
    · exact Or.inr ⟨m, by omega, h⟩
theorem takenIn_zero {ss : List StepD} {y : ByteArray} {n : Nat} : TakenIn ss y n 0 ↔ TakenTo ss y n := by
  constructor
  · rintro (h | ⟨m', hm, _⟩)
    · exact h
    · exact absurd hm (Nat.not_lt_zero _)
  · exact Or.inl

/-- A bool that tells whether something is so. -/
def Tells (b : Bool) (P : Prop) : Prop := b = true ↔ P
set_option maxHeartbeats 10000000 in
theorem refLoose_any (v : Value) (D : DefD) (i : Nat) (hi : i < D.steps.length) (w : World) (h : DefIn w v D) :
    Calls Tryd.prog 60 #[v, .int .i64 (i : Int)] w fun e w' => e = .returned (.bool (tt (KeyUntaken D.steps i))) ∧ Below w.heap.size w w' := by
  obtain ⟨sv, rfl, hd⟩ := h
  obtain ⟨ao, cap, rfl, hcap, hn0, hlen, hrow⟩ := hd
  obtain ⟨g, o, rfl, hg, _⟩ := hrow i hi
  have HR : Hid (∀ j, j < D.steps.length → StepIn w g (o + j * 5) (nth D.steps j)) := fun j hj => by
    obtain ⟨g', o', e, _, k⟩ := hrow j hj
    cases e
    exact k
  have HW : Hid (∀ wq, Below (w.alloc (.cells #[.string D.name, .slice (some ⟨g, o, none⟩) D.steps.length cap] 24)).heap.size (w.alloc (.cells #[.string D.name, .slice (some ⟨g, o, none⟩) D.steps.length cap] 24)) wq → Below w.heap.size w wq ∧ wq.cell? ⟨w.heap.size, 1, none⟩ = some (.slice (some ⟨g, o, none⟩) D.steps.length cap)) := fun wq hb => ⟨(box_def wq hb).1, (box_def wq hb).2.2⟩
  have HK : Hid (∀ a, a < D.steps.length → ∃ ka kc, (∀ wq, Below w.heap.size w wq → wq.cell? ⟨g, o + a * 5 + 1, none⟩ = some (.int .i64 (nth D.steps a).kind) ∧ wq.cell? ⟨g, o + a * 5 + 3, none⟩ = some (.slice ka (nth D.steps a).keys.length kc)) ∧ (nth D.steps a).keys.length ≤ 140737488355328 ∧ (nth D.steps a).keys.length ≤ kc ∧
      ∀ j, j < (nth D.steps a).keys.length → ∃ g o, ka = some ⟨g, o, none⟩ ∧ ∀ wq, Below w.heap.size w wq → wq.cell? ⟨g, o + j, none⟩ = some (.string (keyAt (nth D.steps a).keys j))) := fun a ha => by
    obtain ⟨_, c1, _, kv, nv, c3, _, c5, _⟩ := HR.out a ha
    obtain ⟨ka, kc, rfl, hkc, _, ⟨hkl, _⟩, hkr⟩ := c5
    refine ⟨ka, kc, fun wq hb => ⟨(hb.cell (p := ⟨g, o + a * 5 + 1, none⟩) hg).trans c1, (hb.cell (p := ⟨g, o + a * 5 + 3, none⟩) hg).trans c3⟩, hkl, hkc, fun j hj => ?_⟩
    obtain ⟨g2, o2, e1, e2, e3⟩ := hkr j hj
    exact ⟨g2, o2, e1, fun wq hb => (hb.cell (p := ⟨g2, o2 + j, none⟩) e2).trans e3⟩
  have HB0 : Hid (Below (w.alloc (.cells #[.string D.name, .slice (some ⟨g, o, none⟩) D.steps.length cap] 24)).heap.size (w.alloc (.cells #[.string D.name, .slice (some ⟨g, o, none⟩) D.steps.length cap] 24)) (w.alloc (.cells #[.string D.name, .slice (some ⟨g, o, none⟩) D.steps.length cap] 24))) := Below.refl _ _
  have hiI : (i : Int) < (D.steps.length : Int) := by omega
  have HE1 : Hid (∀ k, k < (nth D.steps i).keys.length → (nth D.steps i).kind = 3 → ¬ TakenTo D.steps (keyAt (nth D.steps i).keys k) D.steps.length → tt (KeyUntaken D.steps i) = true) := fun k hk h3 hn => tt_yes ⟨h3, _, keyAt_mem hk, fun ⟨c, hc, h⟩ => hn ⟨c, hc, h⟩⟩
  have HE2 : Hid ((∀ k, k < (nth D.steps i).keys.length → TakenTo D.steps (keyAt (nth D.steps i).keys k) D.steps.length) → tt (KeyUntaken D.steps i) = false) := fun hn => tt_no (fun ⟨_, x, hx, e⟩ => by
    obtain ⟨k, hk, rfl⟩ := mem_keyAt hx
    obtain ⟨c, hc, h⟩ := hn k hk
    exact e ⟨c, hc, h⟩)
  have HE3 : Hid (¬ (nth D.steps i).kind = 3 → tt (KeyUntaken D.steps i) = false) := fun h => tt_no (fun k => h k.1)
  clear hrow hn0 HR
  generalize tt (KeyUntaken D.steps i) = rg at *
  go_enter Tryd.func60, Tryd.ntmps60
  go_wp2
  generalize (w.alloc (.cells #[.string D.name, .slice (some ⟨g, o, none⟩) D.steps.length cap] 24)) = w0 at *
  go_loopw [5, 6, 7, 8] (fun k _ _ _ wq => ∃ n : Nat, n ≤ (nth D.steps i).keys.length ∧ k = .int .i64 (n : Int) ∧ Hid (Below w0.heap.size w0 wq) ∧ Hid (∀ k, k < n → TakenTo D.steps (keyAt (nth D.steps i).keys k) D.steps.length)) (fun k _ _ _ _ => (nth D.steps i).keys.length - (intOf k).toNat)
  case atStart => exact ⟨0, Nat.zero_le _, rfl, HB0, fun k hk => absurd hk (Nat.not_lt_zero _)⟩
  case round =>
    obtain ⟨n, hn, rfl, HB, HT⟩ := hrel
    obtain ⟨hbw, p1⟩ := HW.out _ HB.out
    obtain ⟨ka, kc, hcl, hkl, hkc, hkr⟩ := HK.out i hi
    obtain ⟨q1, q3⟩ := hcl _ hbw
    have HCL : Hid (∀ wq, Below w.heap.size w wq → wq.cell? ⟨g, o + i * 5 + 1, none⟩ = some (.int .i64 (nth D.steps i).kind) ∧ wq.cell? ⟨g, o + i * 5 + 3, none⟩ = some (.slice ka (nth D.steps i).keys.length kc)) := hcl
    have HKR : Hid (∀ j, j < (nth D.steps i).keys.length → ∃ g o, ka = some ⟨g, o, none⟩ ∧ ∀ wq, Below w.heap.size w wq → wq.cell? ⟨g, o + j, none⟩ = some (.string (keyAt (nth D.steps i).keys j))) := hkr
    clear HB0 hcl hkr
    by_cases hlt : n < (nth D.steps i).keys.length
    case neg =>
      have hltI : ¬ (n : Int) < ((nth D.steps i).keys.length : Int) := by omega
      have HE : Hid (rg = false) := HE2.out (fun k hk => HT.out k (by omega))
      clear HE1 HE2 HE3 HT HCL HKR HK
      go_wp2
      go_ret
      rw [HE.out]
      exact ⟨rfl, hbw⟩
    have hltI : (n : Int) < ((nth D.steps i).keys.length : Int) := by omega
    by_cases h3 : (nth D.steps i).kind = 3
    case neg =>
      have h3' : ((nth D.steps i).kind == (3 : Int)) = false := by simpa using h3
      have HE : Hid (rg = false) := HE3.out h3
      clear HE1 HE2 HE3 HT HCL HKR HK h3
      go_wp2
      go_ret
      rw [HE.out]
      exact ⟨rfl, hbw⟩
    have h3' : ((nth D.steps i).kind == (3 : Int)) = true := by simpa using h3
    obtain ⟨gk, ok, hka, hkey⟩ := HKR.out n hlt
    have HKEY : Hid (∀ wq, Below w.heap.size w wq → wq.cell? ⟨gk, ok + n, none⟩ = some (.string (keyAt (nth D.steps i).keys n))) := hkey
    have HYES : Hid (¬ TakenTo D.steps (keyAt (nth D.steps i).keys n) D.steps.length → rg = true) := HE1.out n hlt h3
    have HT2 : Hid (TakenTo D.steps (keyAt (nth D.steps i).keys n) D.steps.length → ∀ k, k < n + 1 → TakenTo D.steps (keyAt (nth D.steps i).keys k) D.steps.length) := fun h k hk => by
      by_cases e : k = n
      · subst e; exact h
      · exact HT.out k (by omega)
    subst hka
    clear HE1 HE2 HE3 HT HKR h3 hkey
    generalize keyAt (nth D.steps i).keys n = y at *
    go_wp2_with fail
    clear q1 q3 p1 hbw h3'
    go_loopw [6, 7, 8] (fun fd j _ wq => ∃ (nj : Nat) (b : Bool), nj ≤ D.steps.length ∧ j = .int .i64 (nj : Int) ∧ fd = .bool b ∧ Hid (Below w0.heap.size w0 wq) ∧ Hid (Tells b (TakenTo D.steps y nj))) (fun _ j _ _ => D.steps.length - (intOf j).toNat)
    case atStart => exact ⟨0, false, Nat.zero_le _, rfl, rfl, HB, ⟨fun h => (by cases h), fun ⟨c, hc, _⟩ => absurd hc (Nat.not_lt_zero _)⟩⟩
    case round =>
      obtain ⟨nj, b, hnj, rfl, rfl, HB2, HBT⟩ := hrel
      obtain ⟨hbw, p1⟩ := HW.out _ HB2.out
      by_cases hltj : nj < D.steps.length
      · have hltJ : (nj : Int) < (D.steps.length : Int) := by omega
        go_wp2_with fail
        clear p1 hbw
        go_loopw [6, 8] (fun fd m wq => ∃ (nm : Nat) (b : Bool), nm ≤ (nth D.steps nj).keys.length ∧ m = .int .i64 (nm : Int) ∧ fd = .bool b ∧ Hid (Below w0.heap.size w0 wq) ∧ Hid (Tells b (TakenIn D.steps y nj nm)) ∧ Hid ((nth D.steps nj).kind = 3 → nm = 0)) (fun _ m _ => (nth D.steps nj).keys.length - (intOf m).toNat)
        case atStart => exact ⟨0, b, Nat.zero_le _, rfl, rfl, HB2, HBT.out.trans takenIn_zero.symm, fun _ => rfl⟩
        case round =>
          obtain ⟨nm, b2, hnm, rfl, rfl, HB3, HBI, HZ⟩ := hrel
          obtain ⟨hbw, p1⟩ := HW.out _ HB3.out
          obtain ⟨kb, kbc, hcl2, hkl2, hkc2, hkr2⟩ := HK.out nj hltj
          obtain ⟨r1, r3⟩ := hcl2 _ hbw
          obtain ⟨q1, q3⟩ := HCL.out _ hbw
          have qk := HKEY.out _ hbw
          by_cases hltm : nm < (nth D.steps nj).keys.length
          case neg =>
            have hltM : ¬ (nm : Int) < ((nth D.steps nj).keys.length : Int) := by omega
            have HBT2 : Hid (Tells b2 (TakenTo D.steps y (nj + 1))) := by
              show b2 = true ↔ _
              have hbi : b2 = true ↔ _ := HBI.out
              by_cases hk : (nth D.steps nj).kind = 3
              · rw [hbi, HZ.out hk, takenIn_zero]; exact takenTo_skip hk
              · rw [hbi]; exact takenTo_more hk (by omega)
            clear HBI HZ hcl2 hkr2 q1 q3 qk hbw
            go_wp2
            exact ⟨⟨nj + 1, b2, by omega, by go_num, rfl, HB3, HBT2⟩, by simp [intOf]; omega⟩
          have hltM : (nm : Int) < ((nth D.steps nj).keys.length : Int) := by omega
          by_cases hk : (nth D.steps nj).kind = 3
          · have hk' : ((nth D.steps nj).kind != (3 : Int)) = false := by simpa using hk
            have HBT2 : Hid (Tells b2 (TakenTo D.steps y (nj + 1))) := by show b2 = true ↔ _; have hbi : b2 = true ↔ _ := HBI.out; rw [hbi, HZ.out hk, takenIn_zero]; exact takenTo_skip hk
            clear HBI HZ hcl2 hkr2 q1 q3 qk hbw hk
            go_wp2
            exact ⟨⟨nj + 1, b2, by omega, by go_num, rfl, HB3, HBT2⟩, by simp [intOf]; omega⟩
          have hk' : ((nth D.steps nj).kind != (3 : Int)) = true := by simpa using hk
          have HZ2 : Hid ((nth D.steps nj).kind = 3 → nm + 1 = 0) := fun h => absurd h hk
          obtain ⟨gb, ob, hkb, hkey2⟩ := hkr2 nm hltm
          have rk := hkey2 _ hbw
          have HBI2 : Hid (∀ b3 : Bool, Tells b3 (Tells b2 True ∨ keyAt (nth D.steps nj).keys nm = y) → Tells b3 (TakenIn D.steps y nj (nm + 1))) := fun b3 h => by
            have h' : b3 = true ↔ _ := h
            have hbi : b2 = true ↔ _ := HBI.out
            show b3 = true ↔ _
            rw [h', takenIn_more, ← hbi, show Tells b2 True ↔ b2 = true from ⟨fun t => (t : b2 = true ↔ True).2 trivial, fun t => (⟨fun _ => trivial, fun _ => t⟩ : b2 = true ↔ True)⟩]
          subst hkb
          clear HBI HZ hcl2 hkr2 hbw hk hkey2 HYES HT2 HK
          cases b2 with
          | true =>
            have HF : Hid (Tells true (TakenIn D.steps y nj (nm + 1))) := HBI2.out true (by simp [Tells])
            clear HBI2
            go_wp2
            go_quiet (fail)
            go_wp2
            exact ⟨⟨nm + 1, true, by omega, by go_num, rfl, below_drewN HB3.out _, HF, HZ2⟩, by simp [intOf]; omega⟩
          | false =>
            by_cases hy : keyAt (nth D.steps nj).keys nm = y
            · have hy2 := txt_eq hy
              have HF : Hid (Tells true (TakenIn D.steps y nj (nm + 1))) := HBI2.out true (by simp [Tells, hy])
              clear HBI2 hy
              generalize keyAt (nth D.steps nj).keys nm = z at *
              go_wp2
              go_quiet (fail)
              go_wp2
              exact ⟨⟨nm + 1, true, by omega, by go_num, rfl, below_drewN HB3.out _, HF, HZ2⟩, by simp [intOf]; omega⟩
            · have hy2 := txt_ne hy
              have HF : Hid (Tells false (TakenIn D.steps y nj (nm + 1))) := HBI2.out false (by simp [Tells, hy])
              clear HBI2 hy
              generalize keyAt (nth D.steps nj).keys nm = z at *
              go_wp2
              go_quiet (fail)
              go_wp2
              exact ⟨⟨nm + 1, false, by omega, by go_num, rfl, below_drewN HB3.out _, HF, HZ2⟩, by simp [intOf]; omega⟩
      · have hltJ : ¬ (nj : Int) < (D.steps.length : Int) := by omega
        have hje : nj = D.steps.length := by omega
        rw [hje] at HBT
        clear hje
        cases b with
        | true =>
          have HT3 : Hid (∀ k, k < n + 1 → TakenTo D.steps (keyAt (nth D.steps i).keys k) D.steps.length) := HT2.out (HBT.out.1 rfl)
          clear HBT HYES HT2 HCL HKEY HK
          go_wp2
          exact ⟨⟨n + 1, by omega, by go_num, HB2, HT3⟩, by simp [intOf]; omega⟩
        | false =>
          have HE : Hid (rg = true) := HYES.out (fun h => by have := HBT.out.2 h; cases this)
          clear HBT HYES HT2 HCL HKEY HK
          go_wp2
          go_ret
          rw [HE.out]
          exact ⟨rfl, hbw⟩
end Go.Proofs.YtmjnllldjeeigaaDoor

/- The walks of the document's alone, together and Check. -/
set_option linter.unusedVariables false
set_option maxRecDepth 100000
namespace Go.Proofs.YtmjnllldjeeigaaDoor
open Go.RowKit CheckMath
open Go.Proofs.YtmjnllldjeeigaaDoor.Nm

/-- What is known of the sizes of a definition's texts. -/
def faultR (b1 b2 : Bool) (kd pt : Int) (b3 b4 : Bool) : Int := if b1 = false then 110 else if b2 = true then 112 else if kd < 1 ∨ kd > 3 then 113 else if pt < 0 ∨ pt ≥ 4 then 114 else if b3 = false then 115 else if b4 = false then 116 else 0
def SzD (D : DefD) : Prop := D.name.size ≤ 140737488351232 ∧ ∀ s, s ∈ D.steps → s.name.size ≤ 140737488351232 ∧ ∀ k, k ∈ s.keys → k.size ≤ 140737488351232
set_option maxHeartbeats 8000000 in
theorem refAlone_any (v : Value) (D : DefD) (hz : SzD D) (i : Nat) (hi : i < D.steps.length) (w : World) (h : DefIn w v D) :
    Calls Tryd.prog 40 #[v, .int .i64 (i : Int)] w fun e w' => e = .returned (.int .i64 (stepFault D.steps i)) ∧ Below w.heap.size w w' := by
  have HDI : Hid (DefIn w v D) := h
  obtain ⟨hz1, hz2⟩ := hz.2 _ (nth_mem hi)
  obtain ⟨sv, rfl, hd⟩ := h
  obtain ⟨ao, cap, rfl, hcap, hn0, hlen, hrow⟩ := hd
  obtain ⟨g, o, rfl, hg, hs⟩ := hrow i hi
  have hb0 : Below w.heap.size w (w.alloc (.cells #[.string D.name, .slice (some ⟨g, o, none⟩) D.steps.length cap] 24)) := (Below.refl _ _).alloc (Nat.le_refl _) _
  obtain ⟨c0, c1, c2, kv, nv, c3, c4, c5, c6⟩ := hs
  obtain ⟨ka, kc, hkv⟩ := c5.slice
  obtain ⟨na, nc, hnv⟩ := c6.slice
  subst hkv hnv
  have HK : Hid (KRow w (.slice ka (nth D.steps i).keys.length kc) (nth D.steps i).keys) := c5
  have HNE : Hid (IRow w (.slice na (nth D.steps i).needs.length nc) (nth D.steps i).needs) := c6
  have hs1 : (w.alloc (.cells #[.string D.name, .slice (some ⟨g, o, none⟩) D.steps.length cap] 24)).heap.size = w.heap.size + 1 := by simp
  have HW : Hid (∀ wq, Below ((w.alloc (.cells #[.string D.name, .slice (some ⟨g, o, none⟩) D.steps.length cap] 24)).alloc (.cells #[.string (nth D.steps i).name, .int .i64 (nth D.steps i).kind, .int .i64 (nth D.steps i).part, .slice ka (nth D.steps i).keys.length kc, .slice na (nth D.steps i).needs.length nc] 42)).heap.size ((w.alloc (.cells #[.string D.name, .slice (some ⟨g, o, none⟩) D.steps.length cap] 24)).alloc (.cells #[.string (nth D.steps i).name, .int .i64 (nth D.steps i).kind, .int .i64 (nth D.steps i).part, .slice ka (nth D.steps i).keys.length kc, .slice na (nth D.steps i).needs.length nc] 42)) wq →
      Below w.heap.size w wq ∧ wq.cell? ⟨w.heap.size, 0, none⟩ = some (.string D.name) ∧ wq.cell? ⟨w.heap.size, 1, none⟩ = some (.slice (some ⟨g, o, none⟩) D.steps.length cap) ∧ wq.cell? ⟨w.heap.size + 1, 0, none⟩ = some (.string (nth D.steps i).name) ∧ wq.cell? ⟨w.heap.size + 1, 1, none⟩ = some (.int .i64 (nth D.steps i).kind) ∧ wq.cell? ⟨w.heap.size + 1, 2, none⟩ = some (.int .i64 (nth D.steps i).part) ∧ wq.cell? ⟨w.heap.size + 1, 3, none⟩ = some (.slice ka (nth D.steps i).keys.length kc) ∧ wq.cell? ⟨w.heap.size + 1, 4, none⟩ = some (.slice na (nth D.steps i).needs.length nc)) := fun wq hb => by
    generalize hw0 : w.alloc (.cells #[.string D.name, .slice (some ⟨g, o, none⟩) D.steps.length cap] 24) = w0 at *
    have h1 : Below w0.heap.size w0 (w0.alloc (.cells #[.string (nth D.steps i).name, .int .i64 (nth D.steps i).kind, .int .i64 (nth D.steps i).part, .slice ka (nth D.steps i).keys.length kc, .slice na (nth D.steps i).needs.length nc] 42)) := (Below.refl _ _).alloc (Nat.le_refl _) _
    have h2 : Below w0.heap.size w0 wq := h1.trans (hb.mono h1.size)
    refine ⟨hb0.trans (h2.mono hb0.size), ?_, ?_, ?_, ?_, ?_, ?_, ?_⟩
    · rw [h2.cell (p := ⟨w.heap.size, 0, none⟩) (by show w.heap.size < _; omega), ← hw0, World.cell?_alloc_new]; rfl
    · rw [h2.cell (p := ⟨w.heap.size, 1, none⟩) (by show w.heap.size < _; omega), ← hw0, World.cell?_alloc_new]; rfl
    all_goals rw [hb.cell (by simp; omega), ← hs1, World.cell?_alloc_new]; rfl
  have HB0 := Below.refl ((w.alloc (.cells #[.string D.name, .slice (some ⟨g, o, none⟩) D.steps.length cap] 24)).alloc (.cells #[.string (nth D.steps i).name, .int .i64 (nth D.steps i).kind, .int .i64 (nth D.steps i).part, .slice ka (nth D.steps i).keys.length kc, .slice na (nth D.steps i).needs.length nc] 42)).heap.size ((w.alloc (.cells #[.string D.name, .slice (some ⟨g, o, none⟩) D.steps.length cap] 24)).alloc (.cells #[.string (nth D.steps i).name, .int .i64 (nth D.steps i).kind, .int .i64 (nth D.steps i).part, .slice ka (nth D.steps i).keys.length kc, .slice na (nth D.steps i).needs.length nc] 42))
  have HF : Hid (stepFault D.steps i = faultR (isN (nth D.steps i).name) (tt (Twice D.steps i)) (nth D.steps i).kind (nth D.steps i).part (tt (KeysOk (nth D.steps i))) (tt (NeedsOk (nth D.steps i).needs i D.steps.length))) := rfl
  have C1 : Hid (∀ wq, Calls Tryd.prog 39 #[.string (nth D.steps i).name] wq fun e w1 => e = .returned (.bool (isN (nth D.steps i).name)) ∧ w1 = wq) := fun wq => refIs_any _ hz1 wq
  have C2 : Hid (∀ wq, Below w.heap.size w wq → Calls Tryd.prog 55 #[.agg #[.string D.name, .slice (some ⟨g, o, none⟩) D.steps.length cap], .int .i64 (i : Int)] wq fun e w1 => e = .returned (.bool (tt (Twice D.steps i))) ∧ Below wq.heap.size wq w1) := fun wq hq => refTwice_any _ D i hi wq (HDI.out.below hq)
  have C3 : Hid (∀ wq, Below w.heap.size w wq → Calls Tryd.prog 56 #[.agg #[.string (nth D.steps i).name, .int .i64 (nth D.steps i).kind, .int .i64 (nth D.steps i).part, .slice ka (nth D.steps i).keys.length kc, .slice na (nth D.steps i).needs.length nc]] wq fun e w1 => e = .returned (.bool (tt (KeysOk (nth D.steps i)))) ∧ Below wq.heap.size wq w1) := fun wq hq => refKeys_any _ _ _ wq (HK.out.below hq) ⟨_, _, _, rfl⟩ hz2
  have C4 : Hid (∀ wq, Below w.heap.size w wq → Calls Tryd.prog 57 #[.slice na (nth D.steps i).needs.length nc, .int .i64 (i : Int), .int .i64 (D.steps.length : Int)] wq fun e w1 => e = .returned (.bool (tt (NeedsOk (nth D.steps i).needs i D.steps.length))) ∧ Below wq.heap.size wq w1) := fun wq hq => refNeeds_any _ _ i D.steps.length wq (HNE.out.below hq) hlen (by omega)
  have hiI : (i : Int) < (D.steps.length : Int) := by omega
  clear hrow c5 c6 hb0 hs1 hz hz1 hz2 HDI HK HNE hn0
  generalize stepFault D.steps i = sf at *
  go_enter Tryd.func40, Tryd.ntmps40
  go_wp2_with fail
  clear c0 c1 c2 c3 c4
  generalize ((w.alloc (.cells #[.string D.name, .slice (some ⟨g, o, none⟩) D.steps.length cap] 24)).alloc (.cells #[.string (nth D.steps i).name, .int .i64 (nth D.steps i).kind, .int .i64 (nth D.steps i).part, .slice ka (nth D.steps i).keys.length kc, .slice na (nth D.steps i).needs.length nc] 42)) = w0 at *
  generalize isN (nth D.steps i).name = b1 at *
  generalize tt (Twice D.steps i) = b2 at *
  generalize tt (KeysOk (nth D.steps i)) = b3 at *
  generalize tt (NeedsOk (nth D.steps i).needs i D.steps.length) = b4 at *
  generalize (nth D.steps i).kind = kd at *
  generalize (nth D.steps i).part = pt at *
  refine (C1.out _).mono ?_
  rintro e w1 ⟨rfl, hw1⟩
  rw [hw1]
  clear hw1 w1 C1
  obtain ⟨k1, p0, p1, u0, u1, u2, u3, u4⟩ := HW.out _ HB0
  have HK1 : Hid (Below w.heap.size w w0) := k1
  clear k1
  go_wp2_with fail
  refine (C2.out _ HK1.out).mono ?_
  rintro e w2 ⟨rfl, hb2⟩
  have HB2 : Hid (Below w0.heap.size w0 w2) := hb2
  clear hb2 p0 p1 u0 u1 u2 u3 u4 C2 HB0
  obtain ⟨k1, p0, p1, u0, u1, u2, u3, u4⟩ := HW.out _ HB2.out
  have HK2 : Hid (Below w.heap.size w w2) := k1
  clear k1
  go_wp2_with fail
  refine (C3.out _ HK2.out).mono ?_
  rintro e w3 ⟨rfl, hb3⟩
  have HB3 : Hid (Below w0.heap.size w0 w3) := HB2.out.trans (hb3.mono HB2.out.size)
  clear hb3 p0 p1 u0 u1 u2 u3 u4 C3
  obtain ⟨k1, p0, p1, u0, u1, u2, u3, u4⟩ := HW.out _ HB3.out
  have HK3 : Hid (Below w.heap.size w w3) := k1
  clear k1
  go_wp2_with fail
  refine (C4.out _ HK3.out).mono ?_
  rintro e w4 ⟨rfl, hb4⟩
  have HB4 : Hid (Below w0.heap.size w0 w4) := HB3.out.trans (hb4.mono HB3.out.size)
  clear hb4 p0 p1 u0 u1 u2 u3 u4 C4
  obtain ⟨k1, p0, p1, u0, u1, u2, u3, u4⟩ := HW.out _ HB4.out
  have HK4 : Hid (Below w.heap.size w w4) := k1
  clear k1 HW
  cases b1 with
  | false =>
    go_wp2_with fail
    go_ret
    exact ⟨by rw [HF.out]; exact ret_int (by unfold faultR; rw [if_pos rfl]), HK4.out⟩
  | true =>
    cases b2 with
    | true =>
      go_wp2_with fail
      go_ret
      exact ⟨by rw [HF.out]; exact ret_int (by unfold faultR; rw [if_neg (by simp), if_pos rfl]), HK4.out⟩
    | false =>
      by_cases h3 : kd < 1
      · go_wp2_with fail
        go_ret
        exact ⟨by rw [HF.out]; exact ret_int (by unfold faultR; rw [if_neg (by simp), if_neg (by simp), if_pos (Or.inl h3)]), HK4.out⟩
      by_cases h4 : 3 < kd
      · go_wp2_with fail
        go_ret
        exact ⟨by rw [HF.out]; exact ret_int (by unfold faultR; rw [if_neg (by simp), if_neg (by simp), if_pos (Or.inr h4)]), HK4.out⟩
      by_cases h5 : pt < 0
      · go_wp2_with fail
        go_ret
        exact ⟨by rw [HF.out]; exact ret_int (by unfold faultR; rw [if_neg (by simp), if_neg (by simp), if_neg (by omega), if_pos (Or.inl h5)]), HK4.out⟩
      by_cases h6 : 3 < pt
      · go_wp2_with fail
        go_ret
        exact ⟨by rw [HF.out]; exact ret_int (by unfold faultR; rw [if_neg (by simp), if_neg (by simp), if_neg (by omega), if_pos (Or.inr (by omega))]), HK4.out⟩
      cases b3 with
      | false =>
        go_wp2_with fail
        go_ret
        exact ⟨by rw [HF.out]; exact ret_int (by unfold faultR; rw [if_neg (by simp), if_neg (by simp), if_neg (by omega), if_neg (by omega), if_pos rfl]), HK4.out⟩
      | true =>
        cases b4 with
        | false =>
          go_wp2_with fail
          go_ret
          exact ⟨by rw [HF.out]; exact ret_int (by unfold faultR; rw [if_neg (by simp), if_neg (by simp), if_neg (by omega), if_neg (by omega), if_neg (by simp), if_pos rfl]), HK4.out⟩
        | true =>
          go_wp2_with fail
          go_ret
          exact ⟨by rw [HF.out]; exact ret_int (by unfold faultR; rw [if_neg (by simp), if_neg (by simp), if_neg (by omega), if_neg (by omega), if_neg (by simp), if_neg (by simp)]), HK4.out⟩
end Go.Proofs.YtmjnllldjeeigaaDoor

/- The walks of the document's together and Check. -/
set_option linter.unusedVariables false
set_option maxRecDepth 100000
namespace Go.Proofs.YtmjnllldjeeigaaDoor
open Go.RowKit CheckMath
open Go.Proofs.YtmjnllldjeeigaaDoor.Nm

theorem cnt_pos {P : Nat → Prop} {m x : Nat} (hx : x < m) (h : P x) : 1 ≤ cnt P m := by
  have := cnt_lt (P := fun _ => False) (Q := P) m (fun _ _ h => h.elim) x hx h (fun h => h)
  omega
theorem pivots_pos {ss : List StepD} {m : Nat} (h : ∃ x, x < m ∧ (nth ss x).kind = 2) : 1 ≤ pivots ss m := by
  obtain ⟨x, hx, e⟩ := h
  exact cnt_pos (P := fun j => (nth ss j).kind = 2) hx e
theorem pivots_zero {ss : List StepD} {m : Nat} (h : pivots ss m = 1) : ∃ x, x < m ∧ (nth ss x).kind = 2 := by
  rcases Classical.em (∃ x, x < m ∧ (nth ss x).kind = 2) with e | e
  · exact e
  · have : pivots ss m = 0 := cnt_zero m (fun x hx e2 => e ⟨x, hx, e2⟩)
    omega
theorem pivots_upto {ss : List StepD} : ∀ m, m ≤ ss.length → (∀ i, i < m → ¬ PivotAgain ss i) → pivots ss m ≤ 1
  | 0, _, _ => Nat.zero_le _
  | m + 1, hm, h => by
    have ih := pivots_upto m (by omega) (fun i hi => h i (by omega))
    by_cases hk : (nth ss m).kind = 2
    · have hz : pivots ss m = 0 := cnt_zero m (fun x hx e => h m (by omega) ⟨hk, x, hx, e⟩)
      rw [pivots_yes hk, hz]; exact Nat.le_refl _
    · rw [pivots_no hk]; exact ih
/-- What together answers, by the four first numbers. -/
def fourM (r1 r2 r3 r4 : Int) : Int × Int := if ¬ r1 = -1 then (r1, 117) else if ¬ r2 = -1 then (r2, 118) else if ¬ r3 = -1 then (r3, 119) else if ¬ r4 = -1 then (r4, 115) else (-1, 0)
theorem firstF_stop {P : Nat → Prop} {k n : Nat} (h : P k) : firstF P k (n + 1) = (k : Int) := by rw [firstF, if_pos (tt_yes h)]
theorem firstF_go {P : Nat → Prop} {k n : Nat} (h : ¬ P k) : firstF P k (n + 1) = firstF P (k + 1) n := by rw [firstF, if_neg (by rw [tt_no h]; simp)]

set_option maxHeartbeats 10000000 in
theorem refTogether_any (v : Value) (D : DefD) (h8 : D.steps.length ≤ 8) (hN : Needy D.steps) (w : World) (h : DefIn w v D) :
    Calls Tryd.prog 41 #[v] w fun e w' => e = .returned (.tuple #[.int .i64 (amongM D.steps).1, .int .i64 (amongM D.steps).2]) ∧ Below w.heap.size w w' := by
  have C2 : Hid (∀ i, i < D.steps.length → ∀ wq, Below w.heap.size w wq → Calls Tryd.prog 58 #[v, .int .i64 (i : Int)] wq fun e w' => e = .returned (.bool (tt (OutOfOrder D.steps i))) ∧ Below wq.heap.size wq w') := fun i hi wq hq => refOrder_any v D hN i hi wq (h.below hq)
  have C3 : Hid (∀ i, i < D.steps.length → ∀ wq, Below w.heap.size w wq → Calls Tryd.prog 59 #[v, .int .i64 (i : Int)] wq fun e w' => e = .returned (.bool (tt (Ring D.steps i))) ∧ Below wq.heap.size wq w') := fun i hi wq hq => refRing_any v D h8 hN i hi wq (h.below hq)
  have C4 : Hid (∀ i, i < D.steps.length → ∀ wq, Below w.heap.size w wq → Calls Tryd.prog 60 #[v, .int .i64 (i : Int)] wq fun e w' => e = .returned (.bool (tt (KeyUntaken D.steps i))) ∧ Below wq.heap.size wq w') := fun i hi wq hq => refLoose_any v D i hi wq (h.below hq)
  obtain ⟨sv, rfl, hd⟩ := h
  obtain ⟨ao, cap, rfl, hcap, hn0, hlen, hrow⟩ := hd
  have HR : Hid (∀ j, j < D.steps.length → ∃ g o, ao = some ⟨g, o, none⟩ ∧ g < w.heap.size ∧ StepIn w g (o + j * 5) (nth D.steps j)) := hrow
  have HW : Hid (∀ wq, Below (w.alloc (.cells #[.string D.name, .slice ao D.steps.length cap] 24)).heap.size (w.alloc (.cells #[.string D.name, .slice ao D.steps.length cap] 24)) wq → Below w.heap.size w wq ∧ wq.cell? ⟨w.heap.size, 0, none⟩ = some (.string D.name) ∧ wq.cell? ⟨w.heap.size, 1, none⟩ = some (.slice ao D.steps.length cap)) := fun wq hb => box_def wq hb
  have HB0 : Hid (Below (w.alloc (.cells #[.string D.name, .slice ao D.steps.length cap] 24)).heap.size (w.alloc (.cells #[.string D.name, .slice ao D.steps.length cap] 24)) (w.alloc (.cells #[.string D.name, .slice ao D.steps.length cap] 24))) := Below.refl _ _
  have HM : Hid (amongM D.steps = fourM (firstI (PivotAgain D.steps) D.steps.length) (firstI (OutOfOrder D.steps) D.steps.length) (firstI (Ring D.steps) D.steps.length) (firstI (KeyUntaken D.steps) D.steps.length)) := rfl
  have HP0 : Hid (firstI (PivotAgain D.steps) D.steps.length = firstF (PivotAgain D.steps) 0 (D.steps.length - 0)) := rfl
  have HO0 : Hid (firstI (OutOfOrder D.steps) D.steps.length = firstF (OutOfOrder D.steps) 0 (D.steps.length - 0)) := rfl
  have HG0 : Hid (firstI (Ring D.steps) D.steps.length = firstF (Ring D.steps) 0 (D.steps.length - 0)) := rfl
  have HK0 : Hid (firstI (KeyUntaken D.steps) D.steps.length = firstF (KeyUntaken D.steps) 0 (D.steps.length - 0)) := rfl
  clear hrow hn0 hN
  generalize amongM D.steps = am at *
  generalize firstI (PivotAgain D.steps) D.steps.length = r1 at *
  generalize firstI (OutOfOrder D.steps) D.steps.length = r2 at *
  generalize firstI (Ring D.steps) D.steps.length = r3 at *
  generalize firstI (KeyUntaken D.steps) D.steps.length = r4 at *
  generalize hm1 : am.1 = m1
  generalize hm2 : am.2 = m2
  have HM1 : Hid (am.1 = m1) := hm1
  have HM2 : Hid (am.2 = m2) := hm2
  clear hm1 hm2
  go_enter Tryd.func41, Tryd.ntmps41
  go_wp2
  generalize (w.alloc (.cells #[.string D.name, .slice ao D.steps.length cap] 24)) = w0 at *
  go_loopw [4, 5] (fun pv k wq => ∃ n : Nat, n ≤ D.steps.length ∧ k = .int .i64 (n : Int) ∧ pv = .int .i64 (pivots D.steps n : Int) ∧ Hid (Below w0.heap.size w0 wq) ∧ Hid (∀ i, i < n → ¬ PivotAgain D.steps i) ∧ Hid (r1 = firstF (PivotAgain D.steps) n (D.steps.length - n))) (fun _ k _ => D.steps.length - (intOf k).toNat)
  case atStart => exact ⟨0, Nat.zero_le _, rfl, rfl, HB0, fun i hi => absurd hi (Nat.not_lt_zero _), HP0⟩
  case round =>
    obtain ⟨n, hn, rfl, rfl, HB, HN, HF⟩ := hrel
    obtain ⟨hbw, p0, p1⟩ := HW.out _ HB.out
    clear HB0 HP0
    by_cases hlt : n < D.steps.length
    · obtain ⟨g, o, rfl, hg, hs⟩ := HR.out n hlt
      obtain ⟨_, c1, _⟩ := hs.below hg hbw
      have hltI : (n : Int) < (D.steps.length : Int) := by omega
      have hp1 := pivots_upto n hn HN.out
      rw [show D.steps.length - n = (D.steps.length - (n + 1)) + 1 by omega] at HF
      by_cases hk : (nth D.steps n).kind = 2
      · have hk' : ((nth D.steps n).kind == (2 : Int)) = true := by simpa using hk
        by_cases hp : pivots D.steps n = 1
        · have hpa : PivotAgain D.steps n := ⟨hk, pivots_zero hp⟩
          rw [firstF_stop hpa] at HF
          have HA : Hid (am = ((n : Int), 117)) := by show am = _; rw [HM.out, HF.out]; unfold fourM; rw [if_pos (by omega)]
          rw [hp]
          have hbw' : Hid (Below w.heap.size w wr) := hbw
          clear hk hp hpa HN HF HM C2 C3 C4 hbw HO0 HG0 HK0
          go_wp2
          go_ret2
          refine ⟨?_, hbw'.out⟩
          rw [← HM1.out, ← HM2.out, HA.out]
          rfl
        · have hp0 : pivots D.steps n = 0 := by omega
          have hnp : ¬ PivotAgain D.steps n := fun ⟨_, h⟩ => by have := pivots_pos h; omega
          rw [firstF_go hnp] at HF
          have HN2 : Hid (∀ i, i < n + 1 → ¬ PivotAgain D.steps i) := fun i hi => by
            by_cases e : i = n
            · subst e; exact hnp
            · exact HN.out i (by omega)
          have HPV : Hid (pivots D.steps (n + 1) = 1) := by show _ = _; rw [pivots_yes hk, hp0]
          rw [hp0]
          clear hk hp hp0 hnp HN HM C2 C3 C4 hbw HO0 HG0 HK0 hp1
          go_wp2
          exact ⟨⟨n + 1, by omega, by go_num, by rw [HPV.out]; rfl, HB, HN2, HF⟩, by simp [intOf]; omega⟩
      · have hk' : ((nth D.steps n).kind == (2 : Int)) = false := by simpa using hk
        have hnp : ¬ PivotAgain D.steps n := fun h => hk h.1
        rw [firstF_go hnp] at HF
        have HN2 : Hid (∀ i, i < n + 1 → ¬ PivotAgain D.steps i) := fun i hi => by
          by_cases e : i = n
          · subst e; exact hnp
          · exact HN.out i (by omega)
        have HPV : Hid (pivots D.steps (n + 1) = pivots D.steps n) := pivots_no hk
        have hp2 : ((pivots D.steps n : Int) == 2) = false := beq_eq_false_iff_ne.2 (by omega)
        clear hk hnp HN HM C2 C3 C4 hbw HO0 HG0 HK0 hp1
        go_wp2
        exact ⟨⟨n + 1, by omega, by go_num, by rw [HPV.out], HB, HN2, HF⟩, by simp [intOf]; omega⟩
    · have hltI : ¬ (n : Int) < (D.steps.length : Int) := by omega
      have HR1 : Hid (r1 = -1) := by show r1 = -1; rw [HF.out, show D.steps.length - n = 0 by omega]; rfl
      clear HF HN HR
      go_wp2_with fail
      clear p0 p1 hbw
      go_loopw [6, 7] (fun k _ wq => ∃ n : Nat, n ≤ D.steps.length ∧ k = .int .i64 (n : Int) ∧ Hid (Below w0.heap.size w0 wq) ∧ Hid (r2 = firstF (OutOfOrder D.steps) n (D.steps.length - n))) (fun k _ _ => D.steps.length - (intOf k).toNat)
      case atStart => exact ⟨0, Nat.zero_le _, rfl, HB, HO0⟩
      case round =>
        obtain ⟨n2, hn2, rfl, HB2, HF⟩ := hrel
        obtain ⟨hbw, p0, p1⟩ := HW.out _ HB2.out
        have HBW : Hid (Below w.heap.size w wr) := hbw
        by_cases hlt : n2 < D.steps.length
        · have hltI : (n2 : Int) < (D.steps.length : Int) := by omega
          have C : Hid (Calls Tryd.prog 58 #[.agg #[.string D.name, .slice ao D.steps.length cap], .int .i64 (n2 : Int)] wr fun e w' => e = .returned (.bool (tt (OutOfOrder D.steps n2))) ∧ Below wr.heap.size wr w') := C2.out n2 hlt wr hbw
          rw [show D.steps.length - n2 = (D.steps.length - (n2 + 1)) + 1 by omega] at HF
          by_cases hq : OutOfOrder D.steps n2
          · rw [tt_yes hq] at C
            rw [firstF_stop hq] at HF
            have HA : Hid (am = ((n2 : Int), 118)) := by show am = _; rw [HM.out, HR1.out, HF.out]; unfold fourM; rw [if_neg (by simp), if_pos (by omega)]
            clear hq HF hbw
            go_wp2_with fail
            refine C.out.mono ?_
            rintro e w1 ⟨rfl, hb1⟩
            have HE : Hid (Below w.heap.size w w1) := HBW.out.trans (hb1.mono HBW.out.size)
            clear C hb1 p0 p1
            go_wp2_with fail
            go_ret2
            refine ⟨?_, HE.out⟩
            rw [← HM1.out, ← HM2.out, HA.out]
            rfl
          · rw [tt_no hq] at C
            rw [firstF_go hq] at HF
            clear hq hbw
            go_wp2_with fail
            refine C.out.mono ?_
            rintro e w1 ⟨rfl, hb1⟩
            have HB3 : Hid (Below w0.heap.size w0 w1) := HB2.out.trans (hb1.mono HB2.out.size)
            clear C hb1 p0 p1
            go_wp2_with fail
            exact ⟨⟨n2 + 1, by omega, by go_num, HB3, HF⟩, by simp [intOf]; omega⟩
        · have hltI : ¬ (n2 : Int) < (D.steps.length : Int) := by omega
          have HR2 : Hid (r2 = -1) := by show r2 = -1; rw [HF.out, show D.steps.length - n2 = 0 by omega]; rfl
          clear HF hbw HBW
          go_wp2_with fail
          clear p0 p1
          go_loopw [8, 9] (fun k _ wq => ∃ n : Nat, n ≤ D.steps.length ∧ k = .int .i64 (n : Int) ∧ Hid (Below w0.heap.size w0 wq) ∧ Hid (r3 = firstF (Ring D.steps) n (D.steps.length - n))) (fun k _ _ => D.steps.length - (intOf k).toNat)
          case atStart => exact ⟨0, Nat.zero_le _, rfl, HB2, HG0⟩
          case round =>
            obtain ⟨n3, hn3, rfl, HB3, HF⟩ := hrel
            obtain ⟨hbw, p0, p1⟩ := HW.out _ HB3.out
            have HBW : Hid (Below w.heap.size w wr) := hbw
            by_cases hlt : n3 < D.steps.length
            · have hltI : (n3 : Int) < (D.steps.length : Int) := by omega
              have C : Hid (Calls Tryd.prog 59 #[.agg #[.string D.name, .slice ao D.steps.length cap], .int .i64 (n3 : Int)] wr fun e w' => e = .returned (.bool (tt (Ring D.steps n3))) ∧ Below wr.heap.size wr w') := C3.out n3 hlt wr hbw
              rw [show D.steps.length - n3 = (D.steps.length - (n3 + 1)) + 1 by omega] at HF
              by_cases hq : Ring D.steps n3
              · rw [tt_yes hq] at C
                rw [firstF_stop hq] at HF
                have HA : Hid (am = ((n3 : Int), 119)) := by show am = _; rw [HM.out, HR1.out, HR2.out, HF.out]; unfold fourM; rw [if_neg (by simp), if_neg (by simp), if_pos (by omega)]
                clear hq HF hbw
                go_wp2_with fail
                refine C.out.mono ?_
                rintro e w1 ⟨rfl, hb1⟩
                have HE : Hid (Below w.heap.size w w1) := HBW.out.trans (hb1.mono HBW.out.size)
                clear C hb1 p0 p1
                go_wp2_with fail
                go_ret2
                refine ⟨?_, HE.out⟩
                rw [← HM1.out, ← HM2.out, HA.out]
                rfl
              · rw [tt_no hq] at C
                rw [firstF_go hq] at HF
                clear hq hbw
                go_wp2_with fail
                refine C.out.mono ?_
                rintro e w1 ⟨rfl, hb1⟩
                have HB4 : Hid (Below w0.heap.size w0 w1) := HB3.out.trans (hb1.mono HB3.out.size)
                clear C hb1 p0 p1
                go_wp2_with fail
                exact ⟨⟨n3 + 1, by omega, by go_num, HB4, HF⟩, by simp [intOf]; omega⟩
            · have hltI : ¬ (n3 : Int) < (D.steps.length : Int) := by omega
              have HR3 : Hid (r3 = -1) := by show r3 = -1; rw [HF.out, show D.steps.length - n3 = 0 by omega]; rfl
              clear HF hbw HBW
              go_wp2_with fail
              clear p0 p1
              go_loopw [10, 11] (fun k _ wq => ∃ n : Nat, n ≤ D.steps.length ∧ k = .int .i64 (n : Int) ∧ Hid (Below w0.heap.size w0 wq) ∧ Hid (r4 = firstF (KeyUntaken D.steps) n (D.steps.length - n))) (fun k _ _ => D.steps.length - (intOf k).toNat)
              case atStart => exact ⟨0, Nat.zero_le _, rfl, HB3, HK0⟩
              case round =>
                obtain ⟨n4, hn4, rfl, HB4, HF⟩ := hrel
                obtain ⟨hbw, p0, p1⟩ := HW.out _ HB4.out
                have HBW : Hid (Below w.heap.size w wr) := hbw
                by_cases hlt : n4 < D.steps.length
                · have hltI : (n4 : Int) < (D.steps.length : Int) := by omega
                  have C : Hid (Calls Tryd.prog 60 #[.agg #[.string D.name, .slice ao D.steps.length cap], .int .i64 (n4 : Int)] wr fun e w' => e = .returned (.bool (tt (KeyUntaken D.steps n4))) ∧ Below wr.heap.size wr w') := C4.out n4 hlt wr hbw
                  rw [show D.steps.length - n4 = (D.steps.length - (n4 + 1)) + 1 by omega] at HF
                  by_cases hq : KeyUntaken D.steps n4
                  · rw [tt_yes hq] at C
                    rw [firstF_stop hq] at HF
                    have HA : Hid (am = ((n4 : Int), 115)) := by show am = _; rw [HM.out, HR1.out, HR2.out, HR3.out, HF.out]; unfold fourM; rw [if_neg (by simp), if_neg (by simp), if_neg (by simp), if_pos (by omega)]
                    clear hq HF hbw
                    go_wp2_with fail
                    refine C.out.mono ?_
                    rintro e w1 ⟨rfl, hb1⟩
                    have HE : Hid (Below w.heap.size w w1) := HBW.out.trans (hb1.mono HBW.out.size)
                    clear C hb1 p0 p1
                    go_wp2_with fail
                    go_ret2
                    refine ⟨?_, HE.out⟩
                    rw [← HM1.out, ← HM2.out, HA.out]
                    rfl
                  · rw [tt_no hq] at C
                    rw [firstF_go hq] at HF
                    clear hq hbw
                    go_wp2_with fail
                    refine C.out.mono ?_
                    rintro e w1 ⟨rfl, hb1⟩
                    have HB5 : Hid (Below w0.heap.size w0 w1) := HB4.out.trans (hb1.mono HB4.out.size)
                    clear C hb1 p0 p1
                    go_wp2_with fail
                    exact ⟨⟨n4 + 1, by omega, by go_num, HB5, HF⟩, by simp [intOf]; omega⟩
                · have hltI : ¬ (n4 : Int) < (D.steps.length : Int) := by omega
                  have HR4 : r4 = -1 := by rw [HF.out, show D.steps.length - n4 = 0 by omega]; rfl
                  have HA : Hid (am = (-1, 0)) := by show am = _; rw [HM.out, HR1.out, HR2.out, HR3.out, HR4]; rfl
                  clear HF HR4
                  go_wp2_with fail
                  go_ret2
                  refine ⟨?_, hbw⟩
                  rw [← HM1.out, ← HM2.out, HA.out]
                  rfl
end Go.Proofs.YtmjnllldjeeigaaDoor

/- The walk of the document's Check. -/
set_option linter.unusedVariables false
set_option maxRecDepth 100000
namespace Go.Proofs.YtmjnllldjeeigaaDoor
open Go.RowKit CheckMath
open Go.Proofs.YtmjnllldjeeigaaDoor.Nm

set_option maxHeartbeats 4000000 in
theorem refCheck_any (v : Value) (D : DefD) (hz : SzD D) (w : World) (h : DefIn w v D) :
    Calls Tryd.prog 21 #[v] w fun e w' => e = .returned (.tuple #[.int .i64 (checkM D).1, .int .i64 (checkM D).2]) ∧ Below w.heap.size w w' := by
  have HDI : Hid (DefIn w v D) := h
  obtain ⟨sv, rfl, hd⟩ := h
  obtain ⟨ao, cap, rfl, hcap, _, hlen, _⟩ := hd
  have HW : Hid (∀ wq, Below (w.alloc (.cells #[.string D.name, .slice ao D.steps.length cap] 24)).heap.size (w.alloc (.cells #[.string D.name, .slice ao D.steps.length cap] 24)) wq → Below w.heap.size w wq ∧ wq.cell? ⟨w.heap.size, 0, none⟩ = some (.string D.name) ∧ wq.cell? ⟨w.heap.size, 1, none⟩ = some (.slice ao D.steps.length cap)) := fun wq hb => box_def wq hb
  have C1 : Hid (∀ wq, Calls Tryd.prog 39 #[.string D.name] wq fun e w1 => e = .returned (.bool (isN D.name)) ∧ w1 = wq) := fun wq => refIs_any _ hz.1 wq
  have C2 : Hid (∀ n, n < D.steps.length → ∀ wq, Below w.heap.size w wq → Calls Tryd.prog 40 #[.agg #[.string D.name, .slice ao D.steps.length cap], .int .i64 (n : Int)] wq fun e w' => e = .returned (.int .i64 (stepFault D.steps n)) ∧ Below wq.heap.size wq w') := fun n hn wq hq => refAlone_any _ D hz n hn wq (HDI.out.below hq)
  have C3 : Hid (D.steps.length ≤ 8 → Needy D.steps → ∀ wq, Below w.heap.size w wq → Calls Tryd.prog 41 #[.agg #[.string D.name, .slice ao D.steps.length cap]] wq fun e w' => e = .returned (.tuple #[.int .i64 (amongM D.steps).1, .int .i64 (amongM D.steps).2]) ∧ Below wq.heap.size wq w') := fun h8 hN wq hq => refTogether_any _ D h8 hN wq (HDI.out.below hq)
  have HM : Hid (checkM D = topM (isN D.name) D.steps) := rfl
  clear hz HDI
  generalize checkM D = cm at *
  generalize hm1 : cm.1 = m1
  generalize hm2 : cm.2 = m2
  have HM1 : Hid (cm.1 = m1) := hm1
  have HM2 : Hid (cm.2 = m2) := hm2
  clear hm1 hm2
  have HB0 := Below.refl (w.alloc (.cells #[.string D.name, .slice ao D.steps.length cap] 24)).heap.size (w.alloc (.cells #[.string D.name, .slice ao D.steps.length cap] 24))
  go_enter Tryd.func21, Tryd.ntmps21
  go_wp2_with fail
  generalize (w.alloc (.cells #[.string D.name, .slice ao D.steps.length cap] 24)) = w0 at *
  refine (C1.out _).mono ?_
  rintro e w1 ⟨rfl, hw1⟩
  rw [hw1]
  clear hw1 w1 C1
  have HB1 : Hid (Below w0.heap.size w0 w0) := HB0
  clear HB0
  obtain ⟨k1, p0, p1⟩ := HW.out _ HB1.out
  have HK1 : Hid (Below w.heap.size w w0) := k1
  clear k1 p0
  generalize isN D.name = b1 at *
  cases b1 with
  | false =>
    go_wp2_with fail
    go_ret2
    refine ⟨?_, HK1.out⟩
    rw [← HM1.out, ← HM2.out, HM.out, show topM false D.steps = (-1, 110) by unfold topM; rw [if_pos rfl]]
    rfl
  | true =>
    by_cases h0 : D.steps.length < 1
    · have h0' : (D.steps.length : Int) < 1 := by omega
      have HZ : Hid (D.steps.length = 0 ∨ 8 < D.steps.length) := Or.inl (by omega)
      have h0'' : decide ((D.steps.length : Int) < 1) = true := decide_eq_true h0'
      go_wp2_with fail
      go_ret2
      refine ⟨?_, HK1.out⟩
      rw [← HM1.out, ← HM2.out, HM.out, show topM true D.steps = (-1, 111) by unfold topM; rw [if_neg (by simp), if_pos HZ.out]]
      rfl
    have h0' : ¬ (D.steps.length : Int) < 1 := by omega
    by_cases h8 : 8 < D.steps.length
    · have h8' : (8 : Int) < (D.steps.length : Int) := by omega
      go_wp2_with fail
      go_ret2
      refine ⟨?_, HK1.out⟩
      rw [← HM1.out, ← HM2.out, HM.out, show topM true D.steps = (-1, 111) by unfold topM; rw [if_neg (by simp), if_pos (Or.inr h8)]]
      rfl
    have h8' : ¬ (8 : Int) < (D.steps.length : Int) := by omega
    have HMM : Hid (cm = stepsF D.steps 0 D.steps.length) := by show cm = _; rw [HM.out]; unfold topM; rw [if_neg (by simp), if_neg (by omega)]
    clear HM
    go_wp2_with fail
    clear p1
    go_loopw [5, 6] (fun k _ wr => ∃ n : Nat, n ≤ D.steps.length ∧ k = .int .i64 (n : Int) ∧ Hid (Below w0.heap.size w0 wr) ∧ Hid (∀ j, j < n → stepFault D.steps j = 0) ∧ Hid (cm = stepsF D.steps n (D.steps.length - n))) (fun k _ _ => D.steps.length - (intOf k).toNat)
    case atStart => exact ⟨0, Nat.zero_le _, rfl, HB1, fun j hj => absurd hj (Nat.not_lt_zero _), HMM⟩
    case round =>
      obtain ⟨n, hn, rfl, HB, HN, HF⟩ := hrel
      obtain ⟨k2, p0, p1⟩ := HW.out _ HB.out
      have HK2 : Hid (Below w.heap.size w wr) := k2
      clear k2
      by_cases hlt : n < D.steps.length
      · have C : Hid (Calls Tryd.prog 40 #[.agg #[.string D.name, .slice ao D.steps.length cap], .int .i64 (n : Int)] wr fun e w' => e = .returned (.int .i64 (stepFault D.steps n)) ∧ Below wr.heap.size wr w') := C2.out n hlt wr HK2.out
        have hltI : (n : Int) < (D.steps.length : Int) := by omega
        rw [show D.steps.length - n = (D.steps.length - (n + 1)) + 1 by omega] at HF
        by_cases hq : stepFault D.steps n = 0
        · rw [stepsF_go hq] at HF
          have HN2 : Hid (∀ j, j < n + 1 → stepFault D.steps j = 0) := fun j hj => by
            by_cases e : j = n
            · subst e; exact hq
            · exact HN.out j (by omega)
          rw [hq] at C
          clear hq HN
          go_wp2_with fail
          refine C.out.mono ?_
          rintro e w2 ⟨rfl, hb2⟩
          have HB2 : Hid (Below w0.heap.size w0 w2) := HB.out.trans (hb2.mono HB.out.size)
          clear C hb2 HB p0 p1
          go_wp2_with fail
          exact ⟨⟨n + 1, by omega, by go_num, HB2, HN2, HF⟩, by simp [intOf]; omega⟩
        · rw [stepsF_stop hq] at HF
          have hq' : (stepFault D.steps n != (0 : Int)) = true := by simpa using hq
          clear hq HN
          generalize stepFault D.steps n = sf at *
          go_wp2_with fail
          refine C.out.mono ?_
          rintro e w2 ⟨rfl, hb2⟩
          have HB2 : Hid (Below w.heap.size w w2) := HK2.out.trans (hb2.mono HK2.out.size)
          clear C hb2 HB p0 p1
          go_wp2_with fail
          go_ret2
          refine ⟨?_, HB2.out⟩
          rw [← HM1.out, ← HM2.out, HF.out]
          rfl
      · have hltI : ¬ (n : Int) < (D.steps.length : Int) := by omega
        have C : Hid (Calls Tryd.prog 41 #[.agg #[.string D.name, .slice ao D.steps.length cap]] wr fun e w' => e = .returned (.tuple #[.int .i64 (amongM D.steps).1, .int .i64 (amongM D.steps).2]) ∧ Below wr.heap.size wr w') := C3.out (by omega) (needy_of (fun j hj => HN.out j (by omega))) wr HK2.out
        rw [show D.steps.length - n = 0 by omega] at HF
        have HF2 : Hid (cm = amongM D.steps) := HF.out
        clear HN HF
        generalize amongM D.steps = am at *
        go_wp2_with fail
        refine C.out.mono ?_
        rintro e w2 ⟨rfl, hb2⟩
        have HB2 : Hid (Below w.heap.size w w2) := HK2.out.trans (hb2.mono HK2.out.size)
        clear C hb2 HB p0 p1
        go_wp2_with fail
        go_ret2
        refine ⟨?_, HB2.out⟩
        rw [← HM1.out, ← HM2.out, HF2.out]
        rfl
end Go.Proofs.YtmjnllldjeeigaaDoor

/- The walks of the document's may and directly (chapter 12). -/
set_option linter.unusedVariables false
set_option maxRecDepth 100000
namespace Go.Proofs.YtmjnllldjeeigaaDoor
open Go.RowKit CheckMath
open Go.Proofs.YtmjnllldjeeigaaDoor.Nm

set_option maxHeartbeats 2000000 in
theorem refMay_any (v : Value) (D : DefD) (hz : SzD D) (w : World) (h : DefIn w v D) :
    Calls Tryd.prog 28 #[v] w fun e w' => e = .returned (.bool (tt (Fine D))) ∧ Below w.heap.size w w' := by
  have HDI : Hid (DefIn w v D) := h
  obtain ⟨sv, rfl, hd⟩ := h
  obtain ⟨ao, cap, rfl, _⟩ := hd.slice
  have hb0 : Below w.heap.size w (w.alloc (.cells #[.string D.name, .slice ao D.steps.length cap] 24)) := (Below.refl _ _).alloc (Nat.le_refl _) _
  have C : Hid (Calls Tryd.prog 21 #[.agg #[.string D.name, .slice ao D.steps.length cap]] (w.alloc (.cells #[.string D.name, .slice ao D.steps.length cap] 24)) fun e w' => e = .returned (.tuple #[.int .i64 (checkM D).1, .int .i64 (checkM D).2]) ∧ Below w.heap.size w w') := (refCheck_any _ D hz _ (HDI.out.below hb0)).mono (fun e w' ⟨he, hb⟩ => ⟨he, hb0.trans (hb.mono hb0.size)⟩)
  have HO : Hid ((checkM D).2 = 0 ↔ Fine D) := checkM_ok D
  have HY : Hid (Fine D → tt (Fine D) = true) := tt_yes
  have HNN : Hid (¬ Fine D → tt (Fine D) = false) := tt_no
  clear hd hz HDI hb0
  generalize tt (Fine D) = r at *
  by_cases hq : (checkM D).2 = 0
  · have HE : Hid (r = true) := HY.out (HO.out.1 hq)
    have hq' : ((checkM D).2 == (0 : Int)) = true := by simpa using hq
    clear hq HO HY HNN
    generalize (checkM D).1 = m1 at *
    generalize (checkM D).2 = m2 at *
    go_enter Tryd.func28, Tryd.ntmps28
    go_wp2_with fail
    refine C.out.mono ?_
    rintro e w1 ⟨rfl, hb1⟩
    go_wp2_with fail
    go_ret
    rw [HE.out]
    exact ⟨rfl, hb1⟩
  · have HE : Hid (r = false) := HNN.out (fun h => hq (HO.out.2 h))
    have hq' : ((checkM D).2 == (0 : Int)) = false := by simpa using hq
    clear hq HO HY HNN
    generalize (checkM D).1 = m1 at *
    generalize (checkM D).2 = m2 at *
    go_enter Tryd.func28, Tryd.ntmps28
    go_wp2_with fail
    refine C.out.mono ?_
    rintro e w1 ⟨rfl, hb1⟩
    go_wp2_with fail
    go_ret
    rw [HE.out]
    exact ⟨rfl, hb1⟩

set_option maxHeartbeats 4000000 in
theorem refDirectly_any (v : Value) (D : DefD) (b a : Nat) (hb : b < D.steps.length) (ha : a < D.steps.length) (w : World) (h : DefIn w v D) :
    Calls Tryd.prog 47 #[v, .int .i64 (b : Int), .int .i64 (a : Int)] w fun e w' => e = .returned (.bool (tt (Direct D.steps b a))) ∧ Below w.heap.size w w' := by
  obtain ⟨sv, rfl, hd⟩ := h
  obtain ⟨ao, cap, rfl, hcap, _, hlen, hrow⟩ := hd
  obtain ⟨g, o, rfl, hg, hs⟩ := hrow b hb
  obtain ⟨g', o', e, _, hs2⟩ := hrow a ha
  cases e
  have hb0 : Below w.heap.size w (w.alloc (.cells #[.string D.name, .slice (some ⟨g, o, none⟩) D.steps.length cap] 24)) := (Below.refl _ _).alloc (Nat.le_refl _) _
  obtain ⟨c0, c1, c2, kv, nv, c3, c4, c5, c6⟩ := hs
  obtain ⟨d0, d1, d2, kv2, nv2, d3, d4, d5, d6⟩ := hs2
  obtain ⟨ka, kc, rfl⟩ := c5.slice
  obtain ⟨ka2, kc2, rfl⟩ := d5.slice
  obtain ⟨na2, nc2, rfl⟩ := d6.slice
  obtain ⟨na, nc, rfl, hnc, _, hnl, hnr⟩ := c6
  have HNR : Hid (∀ j, j < (nth D.steps b).needs.length → ∃ g o, na = some ⟨g, o, none⟩ ∧ g < w.heap.size ∧ w.cell? ⟨g, o + j, none⟩ = some (.int .i64 (needAt (nth D.steps b).needs j))) := hnr
  have HYES : Hid (∀ j, j < (nth D.steps b).needs.length → needAt (nth D.steps b).needs j = (a : Int) → tt (Direct D.steps b a) = true) := fun j hj e => tt_yes ⟨ha, Or.inl (by rw [← e]; exact needAt_mem hj)⟩
  have HK1 : Hid ((nth D.steps a).kind < (nth D.steps b).kind → tt (Direct D.steps b a) = true) := fun h => tt_yes ⟨ha, Or.inr h⟩
  have HK2 : Hid ((∀ j, j < (nth D.steps b).needs.length → ¬ needAt (nth D.steps b).needs j = (a : Int)) → (nth D.steps b).kind ≤ (nth D.steps a).kind → tt (Direct D.steps b a) = false) := fun h k => tt_no (fun ⟨_, h2⟩ => by
    rcases h2 with h2 | h2
    · obtain ⟨j, hj, e⟩ := mem_needAt h2
      exact h j hj e
    · omega)
  have HW3 : Hid (∀ (w1 w2 w3 wq : World) (cs1 cs2 cs3 : Array Value) (t1 t2 t3 : TypeId), w1 = w.alloc (.cells cs1 t1) → w2 = w1.alloc (.cells cs2 t2) → w3 = w2.alloc (.cells cs3 t3) → Below w3.heap.size w3 wq → Below w.heap.size w wq ∧ (∀ j, wq.cell? ⟨w.heap.size + 1, j, none⟩ = cs2[j]?) ∧ ∀ j, wq.cell? ⟨w.heap.size + 1 + 1, j, none⟩ = cs3[j]?) := fun w1 w2 w3 wq cs1 cs2 cs3 t1 t2 t3 e1 e2 e3 hq => by
    have s1 : w1.heap.size = w.heap.size + 1 := by rw [e1]; simp
    have s2 : w2.heap.size = w.heap.size + 1 + 1 := by rw [e2]; simp [s1]
    have s3 : w3.heap.size = w.heap.size + 1 + 1 + 1 := by rw [e3]; simp [s2]
    have b1 : Below w.heap.size w w1 := by rw [e1]; exact (Below.refl _ _).alloc (Nat.le_refl _) _
    have b2 : Below w.heap.size w w2 := by rw [e2]; exact b1.alloc b1.size _
    have b3 : Below w.heap.size w w3 := by rw [e3]; exact b2.alloc b2.size _
    refine ⟨b3.trans (hq.mono b3.size), fun j => ?_, fun j => ?_⟩
    · rw [hq.cell (p := ⟨w.heap.size + 1, j, none⟩) (by show w.heap.size + 1 < _; omega), e3, World.cell?_alloc_past _ _ _ (by omega), e2, World.cell?_alloc_at _ _ _ _ (by omega)]
    · rw [hq.cell (p := ⟨w.heap.size + 1 + 1, j, none⟩) (by show w.heap.size + 1 + 1 < _; omega), e3, World.cell?_alloc_at _ _ _ _ (by omega)]
  have hbI : (b : Int) < (D.steps.length : Int) := by omega
  have haI : (a : Int) < (D.steps.length : Int) := by omega
  clear hrow hnr c5 d5 d6 hb0
  generalize tt (Direct D.steps b a) = r at *
  go_enter Tryd.func47, Tryd.ntmps47
  go_wp2
  generalize hwA : ((w.alloc (.cells #[.string D.name, .slice (some ⟨g, o, none⟩) D.steps.length cap] 24)).alloc (.cells #[.string (nth D.steps b).name, .int .i64 (nth D.steps b).kind, .int .i64 (nth D.steps b).part, .slice ka (nth D.steps b).keys.length kc, .slice na (nth D.steps b).needs.length nc] 42)).alloc (.cells #[.string (nth D.steps a).name, .int .i64 (nth D.steps a).kind, .int .i64 (nth D.steps a).part, .slice ka2 (nth D.steps a).keys.length kc2, .slice na2 (nth D.steps a).needs.length nc2] 42) = w0 at *
  have HW : Hid (∀ wq, Below w0.heap.size w0 wq → Below w.heap.size w wq ∧ wq.cell? ⟨w.heap.size + 1, 1, none⟩ = some (.int .i64 (nth D.steps b).kind) ∧ wq.cell? ⟨w.heap.size + 1, 4, none⟩ = some (.slice na (nth D.steps b).needs.length nc) ∧ wq.cell? ⟨w.heap.size + 1 + 1, 1, none⟩ = some (.int .i64 (nth D.steps a).kind)) := fun wq hq => by
    obtain ⟨k1, k2, k3⟩ := HW3.out _ _ w0 wq _ _ _ _ _ _ rfl rfl hwA.symm hq
    exact ⟨k1, k2 1, k2 4, k3 1⟩
  have HB0 : Hid (Below w0.heap.size w0 w0) := Below.refl _ _
  clear HW3 hwA c0 c1 c2 c3 c4 d0 d1 d2 d3 d4
  go_loopw [9] (fun k wr => ∃ n : Nat, n ≤ (nth D.steps b).needs.length ∧ k = .int .i64 (n : Int) ∧ Hid (Below w0.heap.size w0 wr) ∧ Hid (∀ j, j < n → ¬ needAt (nth D.steps b).needs j = (a : Int))) (fun k _ => (nth D.steps b).needs.length - (intOf k).toNat)
  case atStart => exact ⟨0, Nat.zero_le _, rfl, HB0, fun j hj => absurd hj (Nat.not_lt_zero _)⟩
  case round =>
    obtain ⟨n, hn, rfl, HB, HN⟩ := hrel
    obtain ⟨hbw, p1, p4, q1⟩ := HW.out _ HB.out
    by_cases hlt : n < (nth D.steps b).needs.length
    · obtain ⟨g2, o2, rfl, hg2, e0⟩ := HNR.out n hlt
      have e1 := (hbw.cell (p := ⟨g2, o2 + n, none⟩) hg2).trans e0
      have hltI : (n : Int) < ((nth D.steps b).needs.length : Int) := by omega
      have HY2 : Hid (needAt (nth D.steps b).needs n = (a : Int) → r = true) := HYES.out n hlt
      have HN2 : Hid (¬ needAt (nth D.steps b).needs n = (a : Int) → ∀ j, j < n + 1 → ¬ needAt (nth D.steps b).needs j = (a : Int)) := fun h j hj => by
        by_cases e : j = n
        · subst e; exact h
        · exact HN.out j (by omega)
      clear e0 HNR HYES HN HK1 HK2
      by_cases hq : needAt (nth D.steps b).needs n = (a : Int)
      · have hq' : (needAt (nth D.steps b).needs n == (a : Int)) = true := by simpa using hq
        have HE : Hid (r = true) := HY2.out hq
        clear hq HY2 HN2
        generalize needAt (nth D.steps b).needs n = x at *
        go_wp2
        go_ret
        rw [HE.out]
        exact ⟨rfl, hbw⟩
      · have hq' : (needAt (nth D.steps b).needs n == (a : Int)) = false := by simpa using hq
        have HN3 : Hid (∀ j, j < n + 1 → ¬ needAt (nth D.steps b).needs j = (a : Int)) := HN2.out hq
        clear hq HY2 HN2
        generalize needAt (nth D.steps b).needs n = x at e1 hq'
        go_wp2
        exact ⟨⟨n + 1, by omega, by go_num, HB, HN3⟩, by simp [intOf]; omega⟩
    · have hltI : ¬ (n : Int) < ((nth D.steps b).needs.length : Int) := by omega
      have HK3 : Hid ((nth D.steps b).kind ≤ (nth D.steps a).kind → r = false) := HK2.out (fun j hj => HN.out j (by omega))
      clear HNR HYES HN HK2
      by_cases hk : (nth D.steps a).kind < (nth D.steps b).kind
      · have HE : Hid (r = true) := HK1.out hk
        clear HK1 HK3
        go_wp2
        go_ret
        rw [HE.out]
        exact ⟨rfl, hbw⟩
      · have HE : Hid (r = false) := HK3.out (by omega)
        clear HK1 HK3
        go_wp2
        go_ret
        rw [HE.out]
        exact ⟨rfl, hbw⟩
end Go.Proofs.YtmjnllldjeeigaaDoor

/- The walk of the document's ahead (chapter 12). -/
set_option linter.unusedVariables false
set_option maxRecDepth 100000
namespace Go.Proofs.YtmjnllldjeeigaaDoor
open Go.RowKit CheckMath
open Go.Proofs.YtmjnllldjeeigaaDoor.Nm

def bl (l : Nat → Bool) : List Value := [.bool (l 0), .bool (l 1), .bool (l 2), .bool (l 3), .bool (l 4), .bool (l 5), .bool (l 6), .bool (l 7)]
theorem bl_at (l : Nat → Bool) (i : Nat) (hi : i < 8) : (bl l)[i]? = some (.bool (l i)) := by
  have : i = 0 ∨ i = 1 ∨ i = 2 ∨ i = 3 ∨ i = 4 ∨ i = 5 ∨ i = 6 ∨ i = 7 := by omega
  rcases this with rfl | rfl | rfl | rfl | rfl | rfl | rfl | rfl <;> rfl
theorem bl_set (l : Nat → Bool) (i : Nat) (hi : i < 8) : (bl l).set i (.bool true) = bl (updB l i true) := by
  have : i = 0 ∨ i = 1 ∨ i = 2 ∨ i = 3 ∨ i = 4 ∨ i = 5 ∨ i = 6 ∨ i = 7 := by omega
  rcases this with rfl | rfl | rfl | rfl | rfl | rfl | rfl | rfl <;> rfl
def DE (ss : List StepD) (a b : Nat) : Prop := a < ss.length ∧ Direct ss a b
def ClosedD (ss : List StepD) (s : Nat) (C : Nat → Prop) : Prop := ∀ c a, (c = s ∨ C c) → DE ss c a → C a
/-- Inside a round: steps less than a were asked. -/
def HA (ss : List StepD) (s : Nat) (l0 l : Nat → Bool) (a : Nat) : Prop := (∀ y, l0 y = true → l y = true) ∧ (∀ x, x < a → ∀ c, (c = s ∨ l0 c = true) → DE ss c x → l x = true) ∧ ∀ C : Nat → Prop, (∀ x, l0 x = true → C x) → ClosedD ss s C → ∀ y, l y = true → C y
def HC (ss : List StepD) (s : Nat) (l l' : Nat → Bool) (a k : Nat) : Prop := (∀ y, l y = true → l' y = true) ∧ (∀ c, c < k → (c = s ∨ l c = true) → DE ss c a → l' a = true) ∧ ∀ C : Nat → Prop, (∀ x, l x = true → C x) → ClosedD ss s C → ∀ y, l' y = true → C y
theorem HA.start (ss : List StepD) (s : Nat) (l : Nat → Bool) : HA ss s l l 0 := ⟨fun _ h => h, fun x hx => absurd hx (Nat.not_lt_zero _), fun C h _ => h⟩
theorem HC.start (ss : List StepD) (s : Nat) (l : Nat → Bool) (a : Nat) : HC ss s l l a 0 := ⟨fun _ h => h, fun x hx => absurd hx (Nat.not_lt_zero _), fun C h _ => h⟩
theorem HC.yes {ss : List StepD} {s a k : Nat} {l l' : Nat → Bool} (h : HC ss s l l' a k) (hk : k = s ∨ l' k = true) (he : DE ss k a) : HC ss s l (updB l' a true) a (k + 1) := by
  obtain ⟨h1, h2, h3⟩ := h
  refine ⟨fun y hy => updB_mono (h1 y hy), fun c hc _ _ => updB_at _ _ _, fun C hC hcl y hy => ?_⟩
  rcases updB_cases hy with rfl | hy
  · exact hcl k y (hk.imp id (h3 C hC hcl k)) he
  · exact h3 C hC hcl y hy
theorem HC.no {ss : List StepD} {s a k : Nat} {l l' : Nat → Bool} (h : HC ss s l l' a k) (hk : ¬ ((k = s ∨ l' k = true) ∧ DE ss k a)) : HC ss s l l' a (k + 1) := by
  obtain ⟨h1, h2, h3⟩ := h
  refine ⟨h1, fun c hc hl he => ?_, h3⟩
  by_cases e : c = k
  · subst e; exact absurd ⟨hl.imp id (h1 c), he⟩ hk
  · exact h2 c (by omega) hl he
theorem HA.more {ss : List StepD} {s a : Nat} {l0 l l' : Nat → Bool} (h : HA ss s l0 l a) (k : HC ss s l l' a ss.length) : HA ss s l0 l' (a + 1) := by
  obtain ⟨h1, h2, h3⟩ := h
  obtain ⟨k1, k2, k3⟩ := k
  refine ⟨fun y hy => k1 y (h1 y hy), fun x hx c hc he => ?_, fun C hC hcl y hy => k3 C (h3 C hC hcl) hcl y hy⟩
  by_cases e : x = a
  · subst e; exact k2 c he.1 (hc.imp id (h1 c)) he
  · exact k1 x (h2 x (by omega) c hc he)
def HI (ss : List StepD) (s r : Nat) (l : Nat → Bool) : Prop := RoundInv (DE ss) s ss.length r (fun y => l y = true)
theorem HI.step {ss : List StepD} {s r : Nat} {l l' : Nat → Bool} (h : HI ss s r l) (k : HA ss s l l' ss.length) : HI ss s (r + 1) l' :=
  RoundInv.step (fun a b e => e.2.1) h ⟨k.1, fun c a hc he => k.2.1 a he.2.1 c hc he, k.2.2⟩
theorem HI.start (ss : List StepD) (s : Nat) : HI ss s 0 (fun _ => false) := ⟨fun y h => (by cases h), Or.inr (Nat.zero_le _)⟩
theorem HI.done {ss : List StepD} {s : Nat} {l : Nat → Bool} (h : HI ss s ss.length l) (y : Nat) : l y = true ↔ AheadP ss s y := RoundInv.done (fun a b e => e.2.1) h y
theorem results_cell8 {P : Program} {fn : Func} {p : Tmp} {ty : TypeId} (h : fn.results = #[.cell p ty]) (tmps : Array Value) (w : World) (g : Nat) (l : Nat → Bool) (d : TypeDesc)
    (hp : tmps.getD p undef = .pointer (some ⟨g, 0, none⟩)) (h0 : ∀ j, j < 8 → w.cell? ⟨g, j, none⟩ = some (.bool (l j)))
    (hu : P.underlying ty = some d) (hd : d.isRow = true) (hi : (P.info? ty).map (·.size) = some 8) : (results fn tmps).run P w = .ok (.agg (bl l).toArray) w := by
  have hp' : tmps[p]?.getD undef = .pointer (some ⟨g, 0, none⟩) := by simpa using hp
  have hr : w.rangeAt g 0 (bl l) := by
    intro j v hj
    rw [Nat.zero_add]
    have hj8 : j < 8 := (List.getElem?_eq_some_iff.1 hj).1
    rw [bl_at l j hj8] at hj
    rw [h0 j hj8]; exact hj
  simp [results, h, hp', asAddr, run_loadVar_mid w g 0 ty (bl l) d hr hu hd hi]

set_option maxHeartbeats 10000000 in
theorem refAhead_any (v : Value) (D : DefD) (h8 : D.steps.length ≤ 8) (b : Nat) (hb : b < D.steps.length) (w : World) (h : DefIn w v D) :
    Calls Tryd.prog 30 #[v, .int .i64 (b : Int)] w fun e w' => ∃ l : Nat → Bool, e = .returned (.agg (bl l).toArray) ∧ (∀ y, l y = true ↔ AheadP D.steps b y) ∧ Below w.heap.size w w' := by
  have HDI : Hid (DefIn w v D) := h
  obtain ⟨sv, rfl, hd⟩ := h
  obtain ⟨ao, cap, rfl, hcap, _, hlen, _⟩ := hd
  have CD : Hid (∀ c a, c < D.steps.length → a < D.steps.length → ∀ wq, Below w.heap.size w wq → Calls Tryd.prog 47 #[.agg #[.string D.name, .slice ao D.steps.length cap], .int .i64 (c : Int), .int .i64 (a : Int)] wq fun e w' => e = .returned (.bool (tt (Direct D.steps c a))) ∧ Below wq.heap.size wq w') := fun c a hc ha wq hq => refDirectly_any _ D c a hc ha wq (HDI.out.below hq)
  have HS0 : Hid (Has w.heap.size w [BlockR (w.heap.size + 1 + 1) (bl fun _ => false), BlockR (w.heap.size + 1) (bl fun _ => false), BlockR w.heap.size [.string D.name, .slice ao D.steps.length cap]]
      (((w.alloc (.cells #[.string D.name, .slice ao D.steps.length cap] 24)).alloc (.cells #[.bool false, .bool false, .bool false, .bool false, .bool false, .bool false, .bool false, .bool false] 56)).alloc (.cells #[.bool false, .bool false, .bool false, .bool false, .bool false, .bool false, .bool false, .bool false] 56))) := by
    have h1 := (Has.start w).box [.string D.name, .slice ao D.steps.length cap] 24
    have h2 := h1.box (bl fun _ => false) 56
    have h3 := h2.box (bl fun _ => false) 56
    have e : ∀ (w : World) (o : Obj), (w.alloc o).heap.size = w.heap.size + 1 := fun w o => by simp
    simp only [e] at h3
    exact h3
  clear HDI
  have hbI : (b : Int) < (D.steps.length : Int) := by omega
  go_enter Tryd.func30, Tryd.ntmps30
  go_wp2_with fail
  generalize (((w.alloc (.cells #[.string D.name, .slice ao D.steps.length cap] 24)).alloc (.cells #[.bool false, .bool false, .bool false, .bool false, .bool false, .bool false, .bool false, .bool false] 56)).alloc (.cells #[.bool false, .bool false, .bool false, .bool false, .bool false, .bool false, .bool false, .bool false] 56)) = w0 at *
  go_loopw [6, 7, 11] (fun _ _ r wq => ∃ (n : Nat) (l : Nat → Bool), n ≤ D.steps.length ∧ r = .int .i64 (n : Int) ∧ Hid (Has w.heap.size w [BlockR (w.heap.size + 1 + 1) (bl l), BlockR (w.heap.size + 1) (bl fun _ => false), BlockR w.heap.size [.string D.name, .slice ao D.steps.length cap]] wq) ∧ Hid (HI D.steps b n l)) (fun _ _ r _ => D.steps.length - (intOf r).toNat)
  case atStart => exact ⟨0, _, Nat.zero_le _, rfl, HS0, HI.start _ _⟩
  case round =>
    obtain ⟨r, l0, hr, rfl, H1, HIV⟩ := hrel
    obtain ⟨p1, _⟩ := H1.out.cell (q := w.heap.size) (vs := [.string D.name, .slice ao D.steps.length cap]) (by simp) 1 _ rfl
    clear HS0
    by_cases hltr : r < D.steps.length
    · have hltR : (r : Int) < (D.steps.length : Int) := by omega
      go_wp2_with fail
      clear p1
      go_loopw [6, 7] (fun a _ wq => ∃ (n : Nat) (l : Nat → Bool), n ≤ D.steps.length ∧ a = .int .i64 (n : Int) ∧ Hid (Has w.heap.size w [BlockR (w.heap.size + 1 + 1) (bl l), BlockR (w.heap.size + 1) (bl fun _ => false), BlockR w.heap.size [.string D.name, .slice ao D.steps.length cap]] wq) ∧ Hid (HA D.steps b l0 l n)) (fun a _ _ => D.steps.length - (intOf a).toNat)
      case atStart => exact ⟨0, l0, Nat.zero_le _, rfl, H1, HA.start _ _ _⟩
      case round =>
        obtain ⟨a, l1, ha, rfl, H2, HAV⟩ := hrel
        obtain ⟨p1, _⟩ := H2.out.cell (q := w.heap.size) (vs := [.string D.name, .slice ao D.steps.length cap]) (by simp) 1 _ rfl
        by_cases hlta : a < D.steps.length
        · have hltA : (a : Int) < (D.steps.length : Int) := by omega
          have ha8 : (a : Int) < 8 := by omega
          go_wp2_with fail
          clear p1
          go_loopw [7] (fun c wq => ∃ (n : Nat) (l : Nat → Bool), n ≤ D.steps.length ∧ c = .int .i64 (n : Int) ∧ Hid (Has w.heap.size w [BlockR (w.heap.size + 1 + 1) (bl l), BlockR (w.heap.size + 1) (bl fun _ => false), BlockR w.heap.size [.string D.name, .slice ao D.steps.length cap]] wq) ∧ Hid (HC D.steps b l1 l a n)) (fun c _ => D.steps.length - (intOf c).toNat)
          case atStart => exact ⟨0, l1, Nat.zero_le _, rfl, H2, HC.start _ _ _ _⟩
          case round =>
            obtain ⟨c, l2, hc, rfl, H3, HCV⟩ := hrel
            obtain ⟨p0, _⟩ := H3.out.cell (q := w.heap.size) (vs := [.string D.name, .slice ao D.steps.length cap]) (by simp) 0 _ rfl
            obtain ⟨p1, _⟩ := H3.out.cell (q := w.heap.size) (vs := [.string D.name, .slice ao D.steps.length cap]) (by simp) 1 _ rfl
            by_cases hltc : c < D.steps.length
            · have hltC : (c : Int) < (D.steps.length : Int) := by omega
              have hc8 : (c : Int) < 8 := by omega
              obtain ⟨q1, _⟩ := H3.out.cell List.mem_cons_self c _ (bl_at l2 c (by omega))
              have C : Hid (Calls Tryd.prog 47 #[.agg #[.string D.name, .slice ao D.steps.length cap], .int .i64 (c : Int), .int .i64 (a : Int)] wr fun e w' => e = .returned (.bool (tt (Direct D.steps c a))) ∧ Below wr.heap.size wr w') := CD.out c a hltc hlta wr H3.out.bel
              have HSET : Hid (∀ wq, Below wr.heap.size wr wq → (wq.cell? ⟨w.heap.size + 1 + 1, a, none⟩ = some (.bool (l2 a)) ∧ wq.frozen? ⟨w.heap.size + 1 + 1, a, none⟩ = false) ∧ Has w.heap.size w [BlockR (w.heap.size + 1 + 1) (bl (updB l2 a true)), BlockR (w.heap.size + 1) (bl fun _ => false), BlockR w.heap.size [.string D.name, .slice ao D.steps.length cap]] (wq.setCell ⟨w.heap.size + 1 + 1, a, none⟩ (.bool true))) := fun wq hq => by
                have h4 := H3.out.below hq
                have h5 := h4.put a (by show a < 8; omega) (.bool true)
                rw [bl_set l2 a (by omega)] at h5
                exact ⟨h4.cell List.mem_cons_self a _ (bl_at l2 a (by omega)), h5⟩
              have HBEL : Hid (∀ wq, Below wr.heap.size wr wq → Has w.heap.size w [BlockR (w.heap.size + 1 + 1) (bl l2), BlockR (w.heap.size + 1) (bl fun _ => false), BlockR w.heap.size [.string D.name, .slice ao D.steps.length cap]] wq) := fun wq hq => H3.out.below hq
              by_cases hg : c = b ∨ l2 c = true
              case neg =>
                have hcb : ((c : Int) == (b : Int)) = false := by simp; exact fun e => hg (Or.inl (by omega))
                have hlf : l2 c = false := by
                  cases e : l2 c with
                  | false => rfl
                  | true => exact absurd (Or.inr e) hg
                have HC2 : Hid (HC D.steps b l1 l2 a (c + 1)) := HCV.out.no (fun h => hg h.1)
                rw [hlf] at q1
                clear hg hlf HCV C HSET HBEL
                go_wp2
                exact ⟨⟨c + 1, l2, by omega, by go_num, H3, HC2⟩, by simp [intOf]; omega⟩
              have HGO : Hid (c = b ∨ l2 c = true) := hg
              by_cases hd2 : Direct D.steps c a
              · rw [tt_yes hd2] at C
                have HC2 : Hid (HC D.steps b l1 (updB l2 a true) a (c + 1)) := HCV.out.yes HGO.out ⟨hltc, hd2⟩
                rcases hg with e | e
                case' inl => have hcb : ((c : Int) == (b : Int)) = true := by rw [e]; exact beq_self_eq_true _
                case' inr =>
                  rw [e] at q1
                  have hcb : True := trivial
                all_goals (
                  clear e HCV HBEL HGO hd2
                  by_cases hcb2 : ((c : Int) == (b : Int)) = true
                  · go_wp2_with fail
                    refine C.out.mono ?_
                    rintro e w1 ⟨rfl, hb1⟩
                    obtain ⟨⟨z1, z2⟩, z3⟩ := HSET.out _ hb1
                    have H5 : Hid _ := z3
                    clear C hb1 HSET p0 p1 q1 z3
                    go_wp2_with fail
                    exact ⟨⟨c + 1, _, by omega, by go_num, H5, HC2⟩, by simp [intOf]; omega⟩
                  · have hcb3 : ((c : Int) == (b : Int)) = false := by simpa using hcb2
                    go_wp2_with fail
                    refine C.out.mono ?_
                    rintro e w1 ⟨rfl, hb1⟩
                    obtain ⟨⟨z1, z2⟩, z3⟩ := HSET.out _ hb1
                    have H5 : Hid _ := z3
                    clear C hb1 HSET p0 p1 q1 z3
                    go_wp2_with fail
                    exact ⟨⟨c + 1, _, by omega, by go_num, H5, HC2⟩, by simp [intOf]; omega⟩)
              · rw [tt_no hd2] at C
                have HC2 : Hid (HC D.steps b l1 l2 a (c + 1)) := HCV.out.no (fun h => hd2 h.2.2)
                rcases hg with e | e
                case' inl => have hcb : ((c : Int) == (b : Int)) = true := by rw [e]; exact beq_self_eq_true _
                case' inr =>
                  rw [e] at q1
                  have hcb : True := trivial
                all_goals (
                  clear e HCV HSET HGO hd2
                  by_cases hcb2 : ((c : Int) == (b : Int)) = true
                  · go_wp2_with fail
                    refine C.out.mono ?_
                    rintro e w1 ⟨rfl, hb1⟩
                    have H5 : Hid _ := HBEL.out _ hb1
                    clear C hb1 HBEL p0 p1 q1
                    go_wp2_with fail
                    exact ⟨⟨c + 1, _, by omega, by go_num, H5, HC2⟩, by simp [intOf]; omega⟩
                  · have hcb3 : ((c : Int) == (b : Int)) = false := by simpa using hcb2
                    go_wp2_with fail
                    refine C.out.mono ?_
                    rintro e w1 ⟨rfl, hb1⟩
                    have H5 : Hid _ := HBEL.out _ hb1
                    clear C hb1 HBEL p0 p1 q1
                    go_wp2_with fail
                    exact ⟨⟨c + 1, _, by omega, by go_num, H5, HC2⟩, by simp [intOf]; omega⟩)
            · have hltC : ¬ (c : Int) < (D.steps.length : Int) := by omega
              have HA2 : Hid (HA D.steps b l0 l2 (a + 1)) := HAV.out.more (by rw [show D.steps.length = c by omega]; exact HCV.out)
              go_wp2
              exact ⟨⟨a + 1, l2, by omega, by go_num, H3, HA2⟩, by simp [intOf]; omega⟩
        · have hltA : ¬ (a : Int) < (D.steps.length : Int) := by omega
          have HI2 : Hid (HI D.steps b (r + 1) l1) := HIV.out.step (by rw [show D.steps.length = a by omega]; exact HAV.out)
          go_wp2
          exact ⟨⟨r + 1, l1, by omega, by go_num, H2, HI2⟩, by simp [intOf]; omega⟩
    · have hltR : ¬ (r : Int) < (D.steps.length : Int) := by omega
      have HD : Hid (∀ y, l0 y = true ↔ AheadP D.steps b y) := fun y => HI.done (by have := HIV.out; rwa [show r = D.steps.length by omega] at this) y
      have H2 := H1.out.perm (List.Perm.swap _ _ _)
      obtain ⟨i0, _⟩ := H1.out.cell List.mem_cons_self 0 _ (bl_at l0 0 (by omega))
      obtain ⟨i1, _⟩ := H1.out.cell List.mem_cons_self 1 _ (bl_at l0 1 (by omega))
      obtain ⟨i2, _⟩ := H1.out.cell List.mem_cons_self 2 _ (bl_at l0 2 (by omega))
      obtain ⟨i3, _⟩ := H1.out.cell List.mem_cons_self 3 _ (bl_at l0 3 (by omega))
      obtain ⟨i4, _⟩ := H1.out.cell List.mem_cons_self 4 _ (bl_at l0 4 (by omega))
      obtain ⟨i5, _⟩ := H1.out.cell List.mem_cons_self 5 _ (bl_at l0 5 (by omega))
      obtain ⟨i6, _⟩ := H1.out.cell List.mem_cons_self 6 _ (bl_at l0 6 (by omega))
      obtain ⟨i7, _⟩ := H1.out.cell List.mem_cons_self 7 _ (bl_at l0 7 (by omega))
      obtain ⟨j0, k0⟩ := H2.cell List.mem_cons_self 0 _ (bl_at _ 0 (by omega))
      obtain ⟨j1, k1⟩ := H2.cell List.mem_cons_self 1 _ (bl_at _ 1 (by omega))
      obtain ⟨j2, k2⟩ := H2.cell List.mem_cons_self 2 _ (bl_at _ 2 (by omega))
      obtain ⟨j3, k3⟩ := H2.cell List.mem_cons_self 3 _ (bl_at _ 3 (by omega))
      obtain ⟨j4, k4⟩ := H2.cell List.mem_cons_self 4 _ (bl_at _ 4 (by omega))
      obtain ⟨j5, k5⟩ := H2.cell List.mem_cons_self 5 _ (bl_at _ 5 (by omega))
      obtain ⟨j6, k6⟩ := H2.cell List.mem_cons_self 6 _ (bl_at _ 6 (by omega))
      obtain ⟨j7, k7⟩ := H2.cell List.mem_cons_self 7 _ (bl_at _ 7 (by omega))
      have H3 := (((((((H2.put 0 (by show 0 < 8; decide) (.bool (l0 0))).put 1 (by show 1 < 8; decide) (.bool (l0 1))).put 2 (by show 2 < 8; decide) (.bool (l0 2))).put 3 (by show 3 < 8; decide) (.bool (l0 3))).put 4 (by show 4 < 8; decide) (.bool (l0 4))).put 5 (by show 5 < 8; decide) (.bool (l0 5))).put 6 (by show 6 < 8; decide) (.bool (l0 6))).put 7 (by show 7 < 8; decide) (.bool (l0 7))
      have HFC : Hid _ := fun (j : Nat) (hj : j < 8) => (H3.cell List.mem_cons_self j (.bool (l0 j)) (bl_at l0 j hj)).1
      have HFB : Hid _ := H3.bel
      clear H2 H3
      go_wp2
      exact bodyPost_ret (results_cell8 rfl _ _ (w.heap.size + 1) l0 _ rfl HFC.out Tryd.underlying56 rfl (by kernel_rfl)) rfl ⟨l0, rfl, HD.out, HFB.out⟩
end Go.Proofs.YtmjnllldjeeigaaDoor
