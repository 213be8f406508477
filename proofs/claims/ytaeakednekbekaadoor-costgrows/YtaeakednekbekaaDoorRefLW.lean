/- The walk of the document's loose. -/
import Derived.Test.YtaeakednekbekaaDoorRefAW
set_option linter.unusedVariables false
set_option maxRecDepth 100000
namespace Go.Proofs.YtaeakednekbekaaDoor
open Go.RowKit CheckMath
open Go.Proofs.YtaeakednekbekaaDoor.Nm

def TakenTo (ss : List StepD) (y : ByteArray) (n : Nat) : Prop := ∃ c, c < n ∧ (nth ss c).kind ≠ 3 ∧ y ∈ (nth ss c).keys
def TakenIn (ss : List StepD) (y : ByteArray) (n m : Nat) : Prop := TakenTo ss y n ∨ ∃ m', m' < m ∧ keyAt (nth ss n).keys m' = y
theorem takenTo_more {ss : List StepD} {y : ByteArray} {n m : Nat} (hk : (nth ss n).kind ≠ 3) (hm : m = (nth ss n).keys.length) : TakenIn ss y n m ↔ TakenTo ss y (n + 1) := by
  subst hm
  constructor
  · rintro (⟨c, hc, h⟩ | ⟨m', hm, e⟩)
    · exact ⟨c, by omega, h⟩
    · exact ⟨n, by omega, hk, by rw [← e]; exact keyAt_mem hm⟩
  · rintro ⟨c, hc, h1, h2⟩
    by_cases e : c = n
    · subst e
      obtain ⟨k, hk, e⟩ := mem_keyAt h2
      exact Or.inr ⟨k, hk, e⟩
    · exact Or.inl ⟨c, by omega, h1, h2⟩
theorem takenTo_skip {ss : List StepD} {y : ByteArray} {n : Nat} (hk : (nth ss n).kind = 3) : TakenTo ss y n ↔ TakenTo ss y (n + 1) := by
  constructor
  · rintro ⟨c, hc, h⟩; exact ⟨c, by omega, h⟩
  · rintro ⟨c, hc, h1, h2⟩
    by_cases e : c = n
    · subst e; exact absurd hk h1
    · exact ⟨c, by omega, h1, h2⟩
theorem takenIn_more {ss : List StepD} {y : ByteArray} {n m : Nat} : TakenIn ss y n (m + 1) ↔ TakenIn ss y n m ∨ keyAt (nth ss n).keys m = y := by
  constructor
  · rintro (h | ⟨m', hm, e⟩)
    · exact Or.inl (Or.inl h)
    · by_cases e2 : m' = m
      · subst e2; exact Or.inr e
      · exact Or.inl (Or.inr ⟨m', by omega, e⟩)
  · rintro ((h | ⟨m', hm, e⟩) | h)
    · exact Or.inl h
    · exact Or.inr ⟨m', by omega, e⟩
    · exact Or.inr ⟨m, by omega, h⟩
theorem takenIn_zero {ss : List StepD} {y : ByteArray} {n : Nat} : TakenIn ss y n 0 ↔ TakenTo ss y n := by
  constructor
  · rintro (h | ⟨m', hm, _⟩)
    · exact h
    · exact absurd hm (Nat.not_lt_zero _)
  · exact Or.inl

/-- A bool that tells whether something is so. -/
def Tells (b : Bool) (P : Prop) : Prop := b = true ↔ P
set_option maxHeartbeats 10000000 in
theorem refLoose_any (v : Value) (D : DefD) (i : Nat) (hi : i < D.steps.length) (w : World) (h : DefIn w v D) :
    Calls Tryd.prog 35 #[v, .int .i64 (i : Int)] w fun e w' => e = .returned (.bool (tt (KeyUntaken D.steps i))) ∧ Below w.heap.size w w' := by
  obtain ⟨sv, rfl, hd⟩ := h
  obtain ⟨ao, cap, rfl, hcap, hn0, hlen, hrow⟩ := hd
  obtain ⟨g, o, rfl, hg, _⟩ := hrow i hi
  have HR : Hid (∀ j, j < D.steps.length → StepIn w g (o + j * 5) (nth D.steps j)) := fun j hj => by
    obtain ⟨g', o', e, _, k⟩ := hrow j hj
    cases e
    exact k
  have HW : Hid (∀ wq, Below (w.alloc (.cells #[.string D.name, .slice (some ⟨g, o, none⟩) D.steps.length cap] 24)).heap.size (w.alloc (.cells #[.string D.name, .slice (some ⟨g, o, none⟩) D.steps.length cap] 24)) wq → Below w.heap.size w wq ∧ wq.cell? ⟨w.heap.size, 1, none⟩ = some (.slice (some ⟨g, o, none⟩) D.steps.length cap)) := fun wq hb => ⟨(box_def wq hb).1, (box_def wq hb).2.2⟩
  have HK : Hid (∀ a, a < D.steps.length → ∃ ka kc, (∀ wq, Below w.heap.size w wq → wq.cell? ⟨g, o + a * 5 + 1, none⟩ = some (.int .i64 (nth D.steps a).kind) ∧ wq.cell? ⟨g, o + a * 5 + 3, none⟩ = some (.slice ka (nth D.steps a).keys.length kc)) ∧ (nth D.steps a).keys.length ≤ 140737488355328 ∧ (nth D.steps a).keys.length ≤ kc ∧
      ∀ j, j < (nth D.steps a).keys.length → ∃ g o, ka = some ⟨g, o, none⟩ ∧ ∀ wq, Below w.heap.size w wq → wq.cell? ⟨g, o + j, none⟩ = some (.string (keyAt (nth D.steps a).keys j))) := fun a ha => by
    obtain ⟨_, c1, _, kv, nv, c3, _, c5, _⟩ := HR.out a ha
    obtain ⟨ka, kc, rfl, hkc, _, ⟨hkl, _⟩, hkr⟩ := c5
    refine ⟨ka, kc, fun wq hb => ⟨(hb.cell (p := ⟨g, o + a * 5 + 1, none⟩) hg).trans c1, (hb.cell (p := ⟨g, o + a * 5 + 3, none⟩) hg).trans c3⟩, hkl, hkc, fun j hj => ?_⟩
    obtain ⟨g2, o2, e1, e2, e3⟩ := hkr j hj
    exact ⟨g2, o2, e1, fun wq hb => (hb.cell (p := ⟨g2, o2 + j, none⟩) e2).trans e3⟩
  have HB0 : Hid (Below (w.alloc (.cells #[.string D.name, .slice (some ⟨g, o, none⟩) D.steps.length cap] 24)).heap.size (w.alloc (.cells #[.string D.name, .slice (some ⟨g, o, none⟩) D.steps.length cap] 24)) (w.alloc (.cells #[.string D.name, .slice (some ⟨g, o, none⟩) D.steps.length cap] 24))) := Below.refl _ _
  have hiI : (i : Int) < (D.steps.length : Int) := by omega
  have HE1 : Hid (∀ k, k < (nth D.steps i).keys.length → (nth D.steps i).kind = 3 → ¬ TakenTo D.steps (keyAt (nth D.steps i).keys k) D.steps.length → tt (KeyUntaken D.steps i) = true) := fun k hk h3 hn => tt_yes ⟨h3, _, keyAt_mem hk, fun ⟨c, hc, h⟩ => hn ⟨c, hc, h⟩⟩
  have HE2 : Hid ((∀ k, k < (nth D.steps i).keys.length → TakenTo D.steps (keyAt (nth D.steps i).keys k) D.steps.length) → tt (KeyUntaken D.steps i) = false) := fun hn => tt_no (fun ⟨_, x, hx, e⟩ => by
    obtain ⟨k, hk, rfl⟩ := mem_keyAt hx
    obtain ⟨c, hc, h⟩ := hn k hk
    exact e ⟨c, hc, h⟩)
  have HE3 : Hid (¬ (nth D.steps i).kind = 3 → tt (KeyUntaken D.steps i) = false) := fun h => tt_no (fun k => h k.1)
  clear hrow hn0 HR
  generalize tt (KeyUntaken D.steps i) = rg at *
  go_enter Tryd.func35, Tryd.ntmps35
  go_wp2
  generalize (w.alloc (.cells #[.string D.name, .slice (some ⟨g, o, none⟩) D.steps.length cap] 24)) = w0 at *
  go_loopw [5, 6, 7, 8] (fun k _ _ _ wq => ∃ n : Nat, n ≤ (nth D.steps i).keys.length ∧ k = .int .i64 (n : Int) ∧ Hid (Below w0.heap.size w0 wq) ∧ Hid (∀ k, k < n → TakenTo D.steps (keyAt (nth D.steps i).keys k) D.steps.length)) (fun k _ _ _ _ => (nth D.steps i).keys.length - (intOf k).toNat)
  case atStart => exact ⟨0, Nat.zero_le _, rfl, HB0, fun k hk => absurd hk (Nat.not_lt_zero _)⟩
  case round =>
    obtain ⟨n, hn, rfl, HB, HT⟩ := hrel
    obtain ⟨hbw, p1⟩ := HW.out _ HB.out
    obtain ⟨ka, kc, hcl, hkl, hkc, hkr⟩ := HK.out i hi
    obtain ⟨q1, q3⟩ := hcl _ hbw
    have HCL : Hid (∀ wq, Below w.heap.size w wq → wq.cell? ⟨g, o + i * 5 + 1, none⟩ = some (.int .i64 (nth D.steps i).kind) ∧ wq.cell? ⟨g, o + i * 5 + 3, none⟩ = some (.slice ka (nth D.steps i).keys.length kc)) := hcl
    have HKR : Hid (∀ j, j < (nth D.steps i).keys.length → ∃ g o, ka = some ⟨g, o, none⟩ ∧ ∀ wq, Below w.heap.size w wq → wq.cell? ⟨g, o + j, none⟩ = some (.string (keyAt (nth D.steps i).keys j))) := hkr
    clear HB0 hcl hkr
    by_cases hlt : n < (nth D.steps i).keys.length
    case neg =>
      have hltI : ¬ (n : Int) < ((nth D.steps i).keys.length : Int) := by omega
      have HE : Hid (rg = false) := HE2.out (fun k hk => HT.out k (by omega))
      clear HE1 HE2 HE3 HT HCL HKR HK
      go_wp2
      go_ret
      rw [HE.out]
      exact ⟨rfl, hbw⟩
    have hltI : (n : Int) < ((nth D.steps i).keys.length : Int) := by omega
    by_cases h3 : (nth D.steps i).kind = 3
    case neg =>
      have h3' : ((nth D.steps i).kind == (3 : Int)) = false := by simpa using h3
      have HE : Hid (rg = false) := HE3.out h3
      clear HE1 HE2 HE3 HT HCL HKR HK h3
      go_wp2
      go_ret
      rw [HE.out]
      exact ⟨rfl, hbw⟩
    have h3' : ((nth D.steps i).kind == (3 : Int)) = true := by simpa using h3
    obtain ⟨gk, ok, hka, hkey⟩ := HKR.out n hlt
    have HKEY : Hid (∀ wq, Below w.heap.size w wq → wq.cell? ⟨gk, ok + n, none⟩ = some (.string (keyAt (nth D.steps i).keys n))) := hkey
    have HYES : Hid (¬ TakenTo D.steps (keyAt (nth D.steps i).keys n) D.steps.length → rg = true) := HE1.out n hlt h3
    have HT2 : Hid (TakenTo D.steps (keyAt (nth D.steps i).keys n) D.steps.length → ∀ k, k < n + 1 → TakenTo D.steps (keyAt (nth D.steps i).keys k) D.steps.length) := fun h k hk => by
      by_cases e : k = n
      · subst e; exact h
      · exact HT.out k (by omega)
    subst hka
    clear HE1 HE2 HE3 HT HKR h3 hkey
    generalize keyAt (nth D.steps i).keys n = y at *
    go_wp2_with fail
    clear q1 q3 p1 hbw h3'
    go_loopw [6, 7, 8] (fun fd j _ wq => ∃ (nj : Nat) (b : Bool), nj ≤ D.steps.length ∧ j = .int .i64 (nj : Int) ∧ fd = .bool b ∧ Hid (Below w0.heap.size w0 wq) ∧ Hid (Tells b (TakenTo D.steps y nj))) (fun _ j _ _ => D.steps.length - (intOf j).toNat)
    case atStart => exact ⟨0, false, Nat.zero_le _, rfl, rfl, HB, ⟨fun h => (by cases h), fun ⟨c, hc, _⟩ => absurd hc (Nat.not_lt_zero _)⟩⟩
    case round =>
      obtain ⟨nj, b, hnj, rfl, rfl, HB2, HBT⟩ := hrel
      obtain ⟨hbw, p1⟩ := HW.out _ HB2.out
      by_cases hltj : nj < D.steps.length
      · have hltJ : (nj : Int) < (D.steps.length : Int) := by omega
        go_wp2_with fail
        clear p1 hbw
        go_loopw [6, 8] (fun fd m wq => ∃ (nm : Nat) (b : Bool), nm ≤ (nth D.steps nj).keys.length ∧ m = .int .i64 (nm : Int) ∧ fd = .bool b ∧ Hid (Below w0.heap.size w0 wq) ∧ Hid (Tells b (TakenIn D.steps y nj nm)) ∧ Hid ((nth D.steps nj).kind = 3 → nm = 0)) (fun _ m _ => (nth D.steps nj).keys.length - (intOf m).toNat)
        case atStart => exact ⟨0, b, Nat.zero_le _, rfl, rfl, HB2, HBT.out.trans takenIn_zero.symm, fun _ => rfl⟩
        case round =>
          obtain ⟨nm, b2, hnm, rfl, rfl, HB3, HBI, HZ⟩ := hrel
          obtain ⟨hbw, p1⟩ := HW.out _ HB3.out
          obtain ⟨kb, kbc, hcl2, hkl2, hkc2, hkr2⟩ := HK.out nj hltj
          obtain ⟨r1, r3⟩ := hcl2 _ hbw
          obtain ⟨q1, q3⟩ := HCL.out _ hbw
          have qk := HKEY.out _ hbw
          by_cases hltm : nm < (nth D.steps nj).keys.length
          case neg =>
            have hltM : ¬ (nm : Int) < ((nth D.steps nj).keys.length : Int) := by omega
            have HBT2 : Hid (Tells b2 (TakenTo D.steps y (nj + 1))) := by
              show b2 = true ↔ _
              have hbi : b2 = true ↔ _ := HBI.out
              by_cases hk : (nth D.steps nj).kind = 3
              · rw [hbi, HZ.out hk, takenIn_zero]; exact takenTo_skip hk
              · rw [hbi]; exact takenTo_more hk (by omega)
            clear HBI HZ hcl2 hkr2 q1 q3 qk hbw
            go_wp2
            exact ⟨⟨nj + 1, b2, by omega, by go_num, rfl, HB3, HBT2⟩, by simp [intOf]; omega⟩
          have hltM : (nm : Int) < ((nth D.steps nj).keys.length : Int) := by omega
          by_cases hk : (nth D.steps nj).kind = 3
          · have hk' : ((nth D.steps nj).kind != (3 : Int)) = false := by simpa using hk
            have HBT2 : Hid (Tells b2 (TakenTo D.steps y (nj + 1))) := by show b2 = true ↔ _; have hbi : b2 = true ↔ _ := HBI.out; rw [hbi, HZ.out hk, takenIn_zero]; exact takenTo_skip hk
            clear HBI HZ hcl2 hkr2 q1 q3 qk hbw hk
            go_wp2
            exact ⟨⟨nj + 1, b2, by omega, by go_num, rfl, HB3, HBT2⟩, by simp [intOf]; omega⟩
          have hk' : ((nth D.steps nj).kind != (3 : Int)) = true := by simpa using hk
          have HZ2 : Hid ((nth D.steps nj).kind = 3 → nm + 1 = 0) := fun h => absurd h hk
          obtain ⟨gb, ob, hkb, hkey2⟩ := hkr2 nm hltm
          have rk := hkey2 _ hbw
          have HBI2 : Hid (∀ b3 : Bool, Tells b3 (Tells b2 True ∨ keyAt (nth D.steps nj).keys nm = y) → Tells b3 (TakenIn D.steps y nj (nm + 1))) := fun b3 h => by
            have h' : b3 = true ↔ _ := h
            have hbi : b2 = true ↔ _ := HBI.out
            show b3 = true ↔ _
            rw [h', takenIn_more, ← hbi, show Tells b2 True ↔ b2 = true from ⟨fun t => (t : b2 = true ↔ True).2 trivial, fun t => (⟨fun _ => trivial, fun _ => t⟩ : b2 = true ↔ True)⟩]
          subst hkb
          clear HBI HZ hcl2 hkr2 hbw hk hkey2 HYES HT2 HK
          cases b2 with
          | true =>
            have HF : Hid (Tells true (TakenIn D.steps y nj (nm + 1))) := HBI2.out true (by simp [Tells])
            clear HBI2
            go_wp2
            go_quiet (fail)
            go_wp2
            exact ⟨⟨nm + 1, true, by omega, by go_num, rfl, below_drewN HB3.out _, HF, HZ2⟩, by simp [intOf]; omega⟩
          | false =>
            by_cases hy : keyAt (nth D.steps nj).keys nm = y
            · have hy2 := txt_eq hy
              have HF : Hid (Tells true (TakenIn D.steps y nj (nm + 1))) := HBI2.out true (by simp [Tells, hy])
              clear HBI2 hy
              generalize keyAt (nth D.steps nj).keys nm = z at *
              go_wp2
              go_quiet (fail)
              go_wp2
              exact ⟨⟨nm + 1, true, by omega, by go_num, rfl, below_drewN HB3.out _, HF, HZ2⟩, by simp [intOf]; omega⟩
            · have hy2 := txt_ne hy
              have HF : Hid (Tells false (TakenIn D.steps y nj (nm + 1))) := HBI2.out false (by simp [Tells, hy])
              clear HBI2 hy
              generalize keyAt (nth D.steps nj).keys nm = z at *
              go_wp2
              go_quiet (fail)
              go_wp2
              exact ⟨⟨nm + 1, false, by omega, by go_num, rfl, below_drewN HB3.out _, HF, HZ2⟩, by simp [intOf]; omega⟩
      · have hltJ : ¬ (nj : Int) < (D.steps.length : Int) := by omega
        have hje : nj = D.steps.length := by omega
        rw [hje] at HBT
        clear hje
        cases b with
        | true =>
          have HT3 : Hid (∀ k, k < n + 1 → TakenTo D.steps (keyAt (nth D.steps i).keys k) D.steps.length) := HT2.out (HBT.out.1 rfl)
          clear HBT HYES HT2 HCL HKEY HK
          go_wp2
          exact ⟨⟨n + 1, by omega, by go_num, HB2, HT3⟩, by simp [intOf]; omega⟩
        | false =>
          have HE : Hid (rg = true) := HYES.out (fun h => by have := HBT.out.2 h; cases this)
          clear HBT HYES HT2 HCL HKEY HK
          go_wp2
          go_ret
          rw [HE.out]
          exact ⟨rfl, hbw⟩
end Go.Proofs.YtaeakednekbekaaDoor
