/- The texts EqW, RowsM, LiveW, CopyRW, SameRW, Args, ArgsC, ArgsT, RefBW, PickW, one behind the other. -/
import Derived.Test.YtmjnllldjeeigaaDoorPkG
import Derived.Deep.DeepCutAuto
import Derived.Deep.RegionHeld3
import Derived.WideShapes
import Derived.Test.YtmjnllldjeeigaaDoorRows
import Derived.ProofKit
import Derived.OpenShut
import Derived.Below
import Derived.SizedLaws
import Derived.WideKeyArgs
import Derived.Deep.DeepHandedRow
import Derived.Deep.Strs
import Derived.LaidLaws
/- The walk of the law's same: two rows of numbers. -/
set_option linter.unusedVariables false
set_option maxRecDepth 100000
namespace Go.Proofs.YtmjnllldjeeigaaDoor
open Go.RowKit CheckMath
open Go.Proofs.YtmjnllldjeeigaaDoor.Nm

theorem ints_ext {xs ys : List Int} (hl : xs.length = ys.length) (h : ∀ j, j < xs.length → needAt xs j = needAt ys j) : xs = ys := by
  apply List.ext_getElem hl
  intro j h1 h2
  have := h j h1
  simpa [needAt, List.getD, h1, h2] using this
set_option maxHeartbeats 2000000 in
theorem lawSame_any (u v : Value) (xs ys : List Int) (w : World) (hu : IRow w u xs) (hv : IRow w v ys) :
    Calls Tryd.prog 11 #[u, v] w fun e w' => e = .returned (.bool (tt (xs = ys))) ∧ Below w.heap.size w w' := by
  obtain ⟨ao, cap, rfl, hcap, _, hlen, hrow⟩ := hu
  obtain ⟨bo, cbp, rfl, hcbp, _, hlen2, hrow2⟩ := hv
  have HR : Hid (∀ j, j < xs.length → ∃ g o, ao = some ⟨g, o, none⟩ ∧ g < w.heap.size ∧ w.cell? ⟨g, o + j, none⟩ = some (.int .i64 (needAt xs j))) := hrow
  have HR2 : Hid (∀ j, j < ys.length → ∃ g o, bo = some ⟨g, o, none⟩ ∧ g < w.heap.size ∧ w.cell? ⟨g, o + j, none⟩ = some (.int .i64 (needAt ys j))) := hrow2
  have HE0 : Hid (¬ xs.length = ys.length → tt (xs = ys) = false) := fun h => tt_no (fun e => h (by rw [e]))
  have HE1 : Hid (∀ j, ¬ needAt xs j = needAt ys j → tt (xs = ys) = false) := fun j h => tt_no (fun e => h (by rw [e]))
  have HE2 : Hid (xs.length = ys.length → (∀ j, j < xs.length → needAt xs j = needAt ys j) → tt (xs = ys) = true) := fun h k => tt_yes (ints_ext h k)
  clear hrow hrow2
  generalize tt (xs = ys) = r at *
  by_cases hl : xs.length = ys.length
  case neg =>
    have hl' : ((xs.length : Int) != (ys.length : Int)) = true := by simp; omega
    have HE : Hid (r = false) := HE0.out hl
    clear HE0 HE1 HE2 HR HR2 hl
    go_enter Tryd.func11, Tryd.ntmps11
    go_wp2
    go_ret
    rw [HE.out]
    exact ⟨rfl, Below.refl _ _⟩
  have hl' : ((xs.length : Int) != (ys.length : Int)) = false := by simp; omega
  have HLL : Hid (xs.length = ys.length) := hl
  clear HE0 hl
  go_enter Tryd.func11, Tryd.ntmps11
  go_wp2
  go_loopw [5] (fun k wr => ∃ n : Nat, n ≤ xs.length ∧ k = .int .i64 (n : Int) ∧ Hid (Below w.heap.size w wr) ∧ Hid (∀ j, j < n → needAt xs j = needAt ys j)) (fun k _ => xs.length - (intOf k).toNat)
  case atStart => exact ⟨0, Nat.zero_le _, rfl, Below.refl _ _, fun j hj => absurd hj (Nat.not_lt_zero _)⟩
  case round =>
    obtain ⟨n, hn, rfl, HB, HT⟩ := hrel
    by_cases hlt : n < xs.length
    · have hlt2 : n < ys.length := by have := HLL.out; omega
      obtain ⟨g, o, rfl, hg, c0⟩ := HR.out n hlt
      obtain ⟨g2, o2, rfl, hg2, c2⟩ := HR2.out n hlt2
      have d0 := (HB.out.cell (p := ⟨g, o + n, none⟩) hg).trans c0
      have d2 := (HB.out.cell (p := ⟨g2, o2 + n, none⟩) hg2).trans c2
      have hltI : (n : Int) < (xs.length : Int) := by omega
      have hltI2 : (n : Int) < (ys.length : Int) := by omega
      have HY2 : Hid (¬ needAt xs n = needAt ys n → r = false) := HE1.out n
      have HT2 : Hid (needAt xs n = needAt ys n → ∀ j, j < n + 1 → needAt xs j = needAt ys j) := fun h j hj => by
        by_cases e : j = n
        · subst e; exact h
        · exact HT.out j (by omega)
      clear c0 c2 HR HR2 HE1 HE2 HT
      by_cases hq : needAt xs n = needAt ys n
      · have hq' : (needAt xs n != needAt ys n) = false := by simpa using hq
        have HT3 : Hid (∀ j, j < n + 1 → needAt xs j = needAt ys j) := HT2.out hq
        clear hq HY2 HT2
        generalize needAt xs n = z at d0 hq'
        generalize needAt ys n = z2 at d2 hq'
        go_wp2
        go_quiet (fail)
        go_wp2
        exact ⟨⟨n + 1, by omega, by go_num, below_drewN HB.out _, HT3⟩, by simp [intOf]; omega⟩
      · have hq' : (needAt xs n != needAt ys n) = true := by simpa using hq
        have HE : Hid (r = false) := HY2.out hq
        clear hq HY2 HT2
        generalize needAt xs n = z at *
        generalize needAt ys n = z2 at *
        go_wp2
        go_quiet (fail)
        go_wp2
        go_ret
        rw [HE.out]
        exact ⟨rfl, below_drewN HB.out _⟩
    · have hltI : ¬ (n : Int) < (xs.length : Int) := by omega
      have HE : Hid (r = true) := HE2.out HLL.out (fun j hj => HT.out j (by omega))
      clear HR HR2 HE1 HE2 HT
      go_wp2
      go_ret
      rw [HE.out]
      exact ⟨rfl, HB.out⟩
end Go.Proofs.YtmjnllldjeeigaaDoor

/- Rows that are read: new ones, and those that a call gave; a stage of a drawn region. -/
set_option linter.unusedVariables false
set_option maxRecDepth 100000
namespace Go.Proofs.YtmjnllldjeeigaaDoor
open Go.RowKit CheckMath
open Go.Proofs.YtmjnllldjeeigaaDoor.Nm

theorem needAt_cast {L : List Nat} {j : Nat} (hj : j < L.length) : needAt (L.map fun (x : Nat) => (x : Int)) j = (L[j] : Int) := by
  simp [needAt, List.getD, hj]
theorem irowN_own {w : World} {B : Nat} {v : Value} {L : List Nat} (hl : L.length ≤ 1000) (h : w.ownsRow B 3 1 v L.length (L.map nV)) : IRow w v (L.map fun (x : Nat) => (x : Int)) := by
  obtain ⟨ao, cap, rfl, hc, h0, hr⟩ := own_form h
  refine ⟨ao, cap, by simp, by simpa using hc, fun e => (h0 e).2, by simp; omega, fun j hj => ?_⟩
  have hj2 : j < L.length := by simpa using hj
  cases ao with
  | none => have := (h0 rfl).1; omega
  | some g =>
    obtain ⟨b, rfl, _, hb, hcell, _⟩ := hr g rfl
    refine ⟨b, 0, rfl, hb, ?_⟩
    rw [Nat.zero_add, hcell j (by omega), needAt_cast hj2]
    simp [hj2, nV]
theorem irowN_new (w : World) (xs : List Int) (hl : xs.length ≤ 1000) : IRow (w.alloc (.cells (xs.map fun x => Value.int .i64 x).toArray 3)) (.slice (some ⟨w.heap.size, 0, none⟩) xs.length xs.length) xs := by
  refine ⟨_, _, rfl, Nat.le_refl _, fun h => (by cases h), by omega, fun j hj => ⟨w.heap.size, 0, rfl, by simp, ?_⟩⟩
  rw [Nat.zero_add, World.cell?_alloc_new]
  simp [hj, needAt, List.getD]

theorem wpAny_stage {P : Program} {md : Region.Mode} {ops : Array Oper} {Q : Exit → Act → World → Prop} {fuel : Nat} {listed : Array Bool} {a0 : Act} {w0 : World} (fuel2 : Nat) (listed2 : Array Bool) (Rest : Act → World → Prop)
    (h1 : ∀ a w l, l = listed2 → Rest a w → wpAny P md ops Q fuel2 l a w)
    (h2 : (∀ a w l, l = listed2 → Rest a w → wpAny P md ops Q fuel2 l a w) → wpAny P md ops Q fuel listed a0 w0) : wpAny P md ops Q fuel listed a0 w0 := h2 h1
end Go.Proofs.YtmjnllldjeeigaaDoor

/- The walk of live, in the law's package. -/
set_option linter.unusedVariables false
set_option maxRecDepth 100000
namespace Go.Proofs.YtmjnllldjeeigaaDoor
open Go.RowKit CheckMath
open Go.Proofs.YtmjnllldjeeigaaDoor.Nm

set_option maxHeartbeats 8000000 in
theorem live_any (w : World) (hT : Tabs w) : Calls Tryd.prog 15 #[] w fun e w' => e = .returned (.bool true) ∧ Below w.heap.size w w' := by
  have C0 := trip_any w
  have HTT : Hid (Tabs w) := hT
  clear hT
  go_enter Tryd.func15, Tryd.ntmps15
  go_wp2_with fail
  refine C0.mono ?_
  rintro e w1 ⟨v, rfl, hd1, hb1⟩
  have HD1 : Hid (DefIn w1 v tripD) := hd1
  obtain ⟨sv, rfl, hdd⟩ := hd1
  obtain ⟨ao, cap, rfl, hcap, _, hlen, _⟩ := hdd
  obtain ⟨w2, hw2⟩ : ∃ w2, w1.alloc (.cells #[.string ⟨#[116, 114, 105, 112]⟩, .slice ao 3 cap] 24) = w2 := ⟨_, rfl⟩
  have HX : Hid (∀ wq, Below w2.heap.size w2 wq → Below w.heap.size w wq ∧ DefIn wq (.agg #[.string ⟨#[116, 114, 105, 112]⟩, .slice ao 3 cap]) tripD ∧ Tabs wq ∧ wq.cell? ⟨w1.heap.size, 0, none⟩ = some (.string ⟨#[116, 114, 105, 112]⟩) ∧ wq.cell? ⟨w1.heap.size, 1, none⟩ = some (.slice ao 3 cap)) := fun wq hq => by
    subst hw2
    have h1 : Below w1.heap.size w1 wq := ((Below.refl _ w1).alloc (Nat.le_refl _) _).trans (hq.mono (by simp))
    have h0 : Below w.heap.size w wq := hb1.trans (h1.mono hb1.size)
    refine ⟨h0, HD1.out.below h1, Utf8Tabs_below HTT.out h0, (hq.cell (p := ⟨w1.heap.size, 0, none⟩) (by simp)).trans ?_, (hq.cell (p := ⟨w1.heap.size, 1, none⟩) (by simp)).trans ?_⟩
    · go_simp
    · go_simp
  have CA : Hid (∀ wq, Below w2.heap.size w2 wq → Calls Tryd.prog 9 #[.agg #[.string ⟨#[116, 114, 105, 112]⟩, .slice ao 3 cap], .int .i64 0] wq fun e w' => ∃ v, e = .returned v ∧ Hid (IRow w' v [(1 : Int), (2 : Int)]) ∧ Hid (Below wq.heap.size wq w')) := fun wq hq => by
    obtain ⟨_, h2, h3, _⟩ := HX.out wq hq
    have h := ahead_any _ tripD (0 : Nat) wq h2 h3
    rw [aheadL_T] at h
    exact h.mono (fun e w' ⟨v, he, ho, hb⟩ => ⟨v, he, irowN_own (by simp) ho, hb⟩)
  have CB : Hid (∀ wq, Below w2.heap.size w2 wq → Calls Tryd.prog 10 #[.agg #[.string ⟨#[116, 114, 105, 112]⟩, .slice ao 3 cap], .int .i64 1] wq fun e w' => ∃ v, e = .returned v ∧ Hid (IRow w' v [(0 : Int), (2 : Int)]) ∧ Hid (Below wq.heap.size wq w')) := fun wq hq => by
    obtain ⟨_, h2, h3, _⟩ := HX.out wq hq
    have h := behind_any _ tripD (1 : Nat) wq h2 h3
    rw [behindL_T] at h
    exact h.mono (fun e w' ⟨v, he, ho, hb⟩ => ⟨v, he, irowN_own (by simp) ho, hb⟩)
  have CT : Hid (∀ wq, Below w2.heap.size w2 wq → Calls Tryd.prog 32 #[.agg #[.string ⟨#[116, 114, 105, 112]⟩, .slice ao 3 cap]] wq fun e w' => ∃ v, e = .returned v ∧ Hid (IRow w' v [(1 : Int), (2 : Int), (0 : Int)]) ∧ Hid (Below wq.heap.size wq w')) := fun wq hq => by
    obtain ⟨_, h2, h3, _⟩ := HX.out wq hq
    refine (told_any _ tripD wq h2 h3).mono ?_
    rintro e w' ⟨n, A, xs, v', hw, hx, he, ho, hb⟩
    obtain rfl := orderT hw hx
    exact ⟨v', he, irowN_own (by simp) ho, hb⟩
  have CR : Hid (∀ b wq, Below w2.heap.size w2 wq → IRow wq (.slice (some ⟨b, 0, none⟩) 3 3) [(0 : Int), (2 : Int), (0 : Int)] → Calls Tryd.prog 17 #[.agg #[.string ⟨#[116, 114, 105, 112]⟩, .slice ao 3 cap], .slice (some ⟨b, 0, none⟩) 3 3] wq fun e w' => ∃ v, e = .returned v ∧ Hid (IRow w' v [(2 : Int)]) ∧ Hid (Below wq.heap.size wq w')) := fun b wq hq hi => by
    obtain ⟨_, h2, h3, _⟩ := HX.out wq hq
    have h := readyTop_any _ tripD (some ⟨b, 0, none⟩) 3 [0, 2, 0] wq h2 hi h3
    rw [readyL_T] at h
    exact h.mono (fun e w' ⟨v, he, ho, hb⟩ => ⟨v, he, irowN_own (by simp) ho, hb⟩)
  have CU : Hid (∀ b wq, Below w2.heap.size w2 wq → IRow wq (.slice (some ⟨b, 0, none⟩) 3 3) [(0 : Int), (2 : Int), (1 : Int)] → Calls Tryd.prog 18 #[.agg #[.string ⟨#[116, 114, 105, 112]⟩, .slice ao 3 cap], .slice (some ⟨b, 0, none⟩) 3 3] wq fun e w' => ∃ v, e = .returned v ∧ Hid (IRow w' v [(2 : Int)]) ∧ Hid (Below wq.heap.size wq w')) := fun b wq hq hi => by
    obtain ⟨_, h2, h3, _⟩ := HX.out wq hq
    have h := undoTop_any _ tripD (some ⟨b, 0, none⟩) 3 [0, 2, 1] wq h2 hi h3
    rw [undoL_T] at h
    exact h.mono (fun e w' ⟨v, he, ho, hb⟩ => ⟨v, he, irowN_own (by simp) ho, hb⟩)
  have CS : Hid (∀ x y xs wq, IRow wq x xs → IRow wq y xs → Calls Tryd.prog 11 #[x, y] wq fun e w' => e = .returned (.bool true) ∧ Hid (Below wq.heap.size wq w')) := fun x y xs wq hx hy => by
    have h := lawSame_any x y xs xs wq hx hy
    rw [tt_yes rfl] at h
    exact h
  have HBEL : Hid (∀ wq, Hid (Below w2.heap.size w2 wq) → Below w.heap.size w wq) := fun wq h => (HX.out wq h.out).1
  have HB0 : Hid (Below w2.heap.size w2 w2) := Below.refl _ _
  have HP : Hid (∀ wq, Hid (Below w2.heap.size w2 wq) → wq.cell? ⟨w1.heap.size, 0, none⟩ = some (.string ⟨#[116, 114, 105, 112]⟩) ∧ wq.cell? ⟨w1.heap.size, 1, none⟩ = some (.slice ao 3 cap)) := fun wq h => (HX.out wq h.out).2.2.2
  obtain ⟨p0, p1⟩ := HP.out w2 HB0
  clear HX
  clear C0 HD1 HTT hb1 hcap hlen
  have hln : tripD.steps.length = 3 := rfl
  have hnm : tripD.name = ⟨#[116, 114, 105, 112]⟩ := rfl
  rw [hln, hnm]
  go_wp2_with fail
  clear p0 p1
  refine (CA.out _ HB0.out).mono ?_
  rintro e wn0 ⟨v0, rfl, R0, hc0⟩
  have HB0n : Hid (Below w2.heap.size w2 wn0) := HB0.out.trans (hc0.out.mono HB0.out.size)
  clear hc0
  go_wp2_with fail
  have RN0 : Hid (IRow (wn0.alloc (.cells #[.int .i64 1, .int .i64 2] 3)) (.slice (some ⟨wn0.heap.size, 0, none⟩) 2 2) [(1 : Int), (2 : Int)]) := irowN_new wn0 [(1 : Int), (2 : Int)] (by simp)
  have RO0 : Hid (IRow (wn0.alloc (.cells #[.int .i64 1, .int .i64 2] 3)) v0 [(1 : Int), (2 : Int)]) := R0.out.below ((Below.refl _ _).alloc (Nat.le_refl _) _)
  have HN0 : Hid (Below w2.heap.size w2 (wn0.alloc (.cells #[.int .i64 1, .int .i64 2] 3))) := HB0n.out.alloc HB0n.out.size _
  refine (CS.out _ _ _ _ RO0.out RN0.out).mono ?_
  rintro e wm0 ⟨rfl, hd0⟩
  have HM0 : Hid (Below w2.heap.size w2 wm0) := HN0.out.trans (hd0.out.mono HN0.out.size)
  clear hd0 RN0 RO0 R0
  obtain ⟨p0, p1⟩ := HP.out wm0 HM0
  go_wp2_with fail
  clear p0 p1
  refine (CB.out _ HM0.out).mono ?_
  rintro e wn1 ⟨v1, rfl, R1, hc1⟩
  have HB1n : Hid (Below w2.heap.size w2 wn1) := HM0.out.trans (hc1.out.mono HM0.out.size)
  clear hc1
  go_wp2_with fail
  have RN1 : Hid (IRow (wn1.alloc (.cells #[.int .i64 0, .int .i64 2] 3)) (.slice (some ⟨wn1.heap.size, 0, none⟩) 2 2) [(0 : Int), (2 : Int)]) := irowN_new wn1 [(0 : Int), (2 : Int)] (by simp)
  have RO1 : Hid (IRow (wn1.alloc (.cells #[.int .i64 0, .int .i64 2] 3)) v1 [(0 : Int), (2 : Int)]) := R1.out.below ((Below.refl _ _).alloc (Nat.le_refl _) _)
  have HN1 : Hid (Below w2.heap.size w2 (wn1.alloc (.cells #[.int .i64 0, .int .i64 2] 3))) := HB1n.out.alloc HB1n.out.size _
  refine (CS.out _ _ _ _ RO1.out RN1.out).mono ?_
  rintro e wm1 ⟨rfl, hd1⟩
  have HM1 : Hid (Below w2.heap.size w2 wm1) := HN1.out.trans (hd1.out.mono HN1.out.size)
  clear hd1 RN1 RO1 R1
  obtain ⟨p0, p1⟩ := HP.out wm1 HM1
  go_wp2_with fail
  clear p0 p1
  refine (CT.out _ HM1.out).mono ?_
  rintro e wn2 ⟨v2, rfl, R2, hc2⟩
  have HB2n : Hid (Below w2.heap.size w2 wn2) := HM1.out.trans (hc2.out.mono HM1.out.size)
  clear hc2
  go_wp2_with fail
  have RN2 : Hid (IRow (wn2.alloc (.cells #[.int .i64 1, .int .i64 2, .int .i64 0] 3)) (.slice (some ⟨wn2.heap.size, 0, none⟩) 3 3) [(1 : Int), (2 : Int), (0 : Int)]) := irowN_new wn2 [(1 : Int), (2 : Int), (0 : Int)] (by simp)
  have RO2 : Hid (IRow (wn2.alloc (.cells #[.int .i64 1, .int .i64 2, .int .i64 0] 3)) v2 [(1 : Int), (2 : Int), (0 : Int)]) := R2.out.below ((Below.refl _ _).alloc (Nat.le_refl _) _)
  have HN2 : Hid (Below w2.heap.size w2 (wn2.alloc (.cells #[.int .i64 1, .int .i64 2, .int .i64 0] 3))) := HB2n.out.alloc HB2n.out.size _
  refine (CS.out _ _ _ _ RO2.out RN2.out).mono ?_
  rintro e wm2 ⟨rfl, hd2⟩
  have HM2 : Hid (Below w2.heap.size w2 wm2) := HN2.out.trans (hd2.out.mono HN2.out.size)
  clear hd2 RN2 RO2 R2
  obtain ⟨p0, p1⟩ := HP.out wm2 HM2
  go_wp2_with fail
  have RA3 : Hid (IRow (wm2.alloc (.cells #[.int .i64 0, .int .i64 2, .int .i64 0] 3)) (.slice (some ⟨wm2.heap.size, 0, none⟩) 3 3) [(0 : Int), (2 : Int), (0 : Int)]) := irowN_new wm2 [(0 : Int), (2 : Int), (0 : Int)] (by simp)
  have HA3 : Hid (Below w2.heap.size w2 (wm2.alloc (.cells #[.int .i64 0, .int .i64 2, .int .i64 0] 3))) := HM2.out.alloc HM2.out.size _
  clear p0 p1
  refine (CR.out _ _ HA3.out RA3.out).mono ?_
  rintro e wn3 ⟨v3, rfl, R3, hc3⟩
  have HB3n : Hid (Below w2.heap.size w2 wn3) := HA3.out.trans (hc3.out.mono HA3.out.size)
  clear hc3
  go_wp2_with fail
  have RN3 : Hid (IRow (wn3.alloc (.cells #[.int .i64 2] 3)) (.slice (some ⟨wn3.heap.size, 0, none⟩) 1 1) [(2 : Int)]) := irowN_new wn3 [(2 : Int)] (by simp)
  have RO3 : Hid (IRow (wn3.alloc (.cells #[.int .i64 2] 3)) v3 [(2 : Int)]) := R3.out.below ((Below.refl _ _).alloc (Nat.le_refl _) _)
  have HN3 : Hid (Below w2.heap.size w2 (wn3.alloc (.cells #[.int .i64 2] 3))) := HB3n.out.alloc HB3n.out.size _
  refine (CS.out _ _ _ _ RO3.out RN3.out).mono ?_
  rintro e wm3 ⟨rfl, hd3⟩
  have HM3 : Hid (Below w2.heap.size w2 wm3) := HN3.out.trans (hd3.out.mono HN3.out.size)
  clear hd3 RN3 RO3 R3
  obtain ⟨p0, p1⟩ := HP.out wm3 HM3
  go_wp2_with fail
  have RA4 : Hid (IRow (wm3.alloc (.cells #[.int .i64 0, .int .i64 2, .int .i64 1] 3)) (.slice (some ⟨wm3.heap.size, 0, none⟩) 3 3) [(0 : Int), (2 : Int), (1 : Int)]) := irowN_new wm3 [(0 : Int), (2 : Int), (1 : Int)] (by simp)
  have HA4 : Hid (Below w2.heap.size w2 (wm3.alloc (.cells #[.int .i64 0, .int .i64 2, .int .i64 1] 3))) := HM3.out.alloc HM3.out.size _
  clear p0 p1
  refine (CU.out _ _ HA4.out RA4.out).mono ?_
  rintro e wn4 ⟨v4, rfl, R4, hc4⟩
  have HB4n : Hid (Below w2.heap.size w2 wn4) := HA4.out.trans (hc4.out.mono HA4.out.size)
  clear hc4
  go_wp2_with fail
  have RN4 : Hid (IRow (wn4.alloc (.cells #[.int .i64 2] 3)) (.slice (some ⟨wn4.heap.size, 0, none⟩) 1 1) [(2 : Int)]) := irowN_new wn4 [(2 : Int)] (by simp)
  have RO4 : Hid (IRow (wn4.alloc (.cells #[.int .i64 2] 3)) v4 [(2 : Int)]) := R4.out.below ((Below.refl _ _).alloc (Nat.le_refl _) _)
  have HN4 : Hid (Below w2.heap.size w2 (wn4.alloc (.cells #[.int .i64 2] 3))) := HB4n.out.alloc HB4n.out.size _
  refine (CS.out _ _ _ _ RO4.out RN4.out).mono ?_
  rintro e wm4 ⟨rfl, hd4⟩
  have HM4 : Hid (Below w2.heap.size w2 wm4) := HN4.out.trans (hd4.out.mono HN4.out.size)
  clear hd4 RN4 RO4 R4
  go_wp2_with fail
  go_ret
  exact ⟨rfl, HBEL.out _ HM4⟩
end Go.Proofs.YtmjnllldjeeigaaDoor

/- The walk of odysseyref10.Copy. -/
set_option linter.unusedVariables false
set_option maxRecDepth 100000
namespace Go.Proofs.YtmjnllldjeeigaaDoor
open Go.RowKit CheckMath

set_option maxHeartbeats 8000000 in
theorem copy_any (v : Value) (D : DefD) (w : World) (h : DefIn w v D) (h80 : D.steps.length * 80 ≤ 140737488355328) (hok : ∀ s, s ∈ D.steps → StOk s) :
    Calls Tryd.prog 8 #[v] w fun e w' => ∃ sv xs, e = .returned (.agg #[.string D.name, sv]) ∧ xs.map (·.st) = D.steps ∧ Has w.heap.size w (rowsRes sv xs) w' := by
  obtain ⟨sv, rfl, hd⟩ := h
  obtain ⟨ao, cap, rfl, hcap, hn0, hlen, hrow⟩ := hd
  have HROW : Hid (∀ j, j < D.steps.length → ∃ g o, ao = some ⟨g, o, none⟩ ∧ g < w.heap.size ∧ StepIn w g (o + j * 5) (nth D.steps j)) := hrow
  have HOK : Hid (∀ s, s ∈ D.steps → StOk s) := hok
  clear hrow hok hn0
  obtain ⟨ii, hii, hi0, hi1, hi2⟩ := info_parts infoI
  obtain ⟨is, his, hs0, hs1, hs2⟩ := info_parts infoS
  obtain ⟨ip, hip, hp0, hp1, hp2⟩ := info_parts infoP
  have HS0 : Hid (Has w.heap.size w [BlockR (w.heap.size + 1 + 1) [.string D.name, .slice none 0 0], BlockR (w.heap.size + 1) [.string ⟨#[]⟩, .slice none 0 0], BlockR w.heap.size [.string D.name, .slice ao D.steps.length cap]]
      (((w.alloc (.cells #[.string D.name, .slice ao D.steps.length cap] 24)).alloc (.cells #[.string ⟨#[]⟩, .slice none 0 0] 24)).alloc (.cells #[.string D.name, .slice none 0 0] 24))) := by
    have h1 := (Has.start w).box [.string D.name, .slice ao D.steps.length cap] 24
    have h2 := h1.box [.string ⟨#[]⟩, .slice none 0 0] 24
    have h3 := h2.box [.string D.name, .slice none 0 0] 24
    have e : ∀ (w : World) (o : Obj), (w.alloc o).heap.size = w.heap.size + 1 := fun w o => by simp
    simp only [e] at h3
    exact h3
  go_enter Tryd.func8, Tryd.ntmps8
  go_wp2_with fail
  go_loopw [4, 5] (fun i _ wr => ∃ (k : Nat) (ov : Value) (xs : List Cm), k ≤ D.steps.length ∧ i = .int .i64 (k : Int) ∧ Hid (xs.length = k) ∧ Hid (xs.map (·.st) = D.steps.take k) ∧
      Hid (Has w.heap.size w (BlockR (w.heap.size + 1 + 1) [.string D.name, ov] :: BlockR (w.heap.size + 1) [.string ⟨#[]⟩, .slice none 0 0] :: BlockR w.heap.size [.string D.name, .slice ao D.steps.length cap] :: rowsRes ov xs) wr)) (fun i _ _ => D.steps.length - (intOf i).toNat)
  case atStart =>
    refine ⟨0, .slice none 0 0, [], Nat.zero_le _, rfl, rfl, (rfl : ([] : List Cm).map (·.st) = D.steps.take 0), ?_⟩
    have := (HS0.out.row (t := 42) (size := 5) (v := .slice none 0 0) (n := 0) (xs := []) (World.ownsRow_nil _ _ _ _) (Below.refl _ _)).perm (List.perm_middle (l₁ := [_, _, _])).symm
    exact this
  case round =>
    obtain ⟨k, ov, xs, hk, rfl, HL, HM, H⟩ := hrel
    obtain ⟨p1, _⟩ := H.out.cell (q := w.heap.size) (vs := [.string D.name, .slice ao D.steps.length cap]) (by simp) 1 _ rfl
    by_cases hlt : k < D.steps.length
    · obtain ⟨g, o, rfl, hg, hs⟩ := HROW.out k hlt
      obtain ⟨c0, c1, c2, kv, nv, c3, c4, c5, c6⟩ := hs
      have hbw := H.out.bel
      have d0 := (hbw.cell (p := ⟨g, o + k * 5, none⟩) hg).trans c0
      have d1 := (hbw.cell (p := ⟨g, o + k * 5 + 1, none⟩) hg).trans c1
      have d2 := (hbw.cell (p := ⟨g, o + k * 5 + 2, none⟩) hg).trans c2
      have hgr : g < wr.heap.size := Nat.lt_of_lt_of_le hg H.out.size
      have hwr : w.heap.size < wr.heap.size := block_lt_of_cell p1
      have hltI : (k : Int) < (D.steps.length : Int) := by omega
      clear c0 c1 c2 hbw
      obtain ⟨ka, kc, rfl, hkc, hk0, ⟨hkl, hks⟩, hkr⟩ := c5
      obtain ⟨na, nc, rfl, hnc, hn0, hnl, hnr⟩ := c6
      obtain ⟨ok1, ok2, ok3⟩ := HOK.out _ (nth_mem hlt)
      have HX : Hid (∀ wq, Below wr.heap.size wr wq → wq.cell? ⟨w.heap.size, 1, none⟩ = some (.slice (some ⟨g, o, none⟩) D.steps.length cap) ∧ wq.cell? ⟨g, o + k * 5 + 3, none⟩ = some (.slice ka (nth D.steps k).keys.length kc) ∧ wq.cell? ⟨g, o + k * 5 + 4, none⟩ = some (.slice na (nth D.steps k).needs.length nc) ∧
          (∀ ad, ka = some ad → ∀ j u, ((nth D.steps k).keys.map fun s => Value.string s)[j]? = some u → wq.cell? (ad.add j) = some u) ∧ (∀ ad, na = some ad → ∀ j u, ((nth D.steps k).needs.map fun n => Value.int .i64 n)[j]? = some u → wq.cell? (ad.add j) = some u)) := fun wq hq => by
        have hb := H.out.bel.trans (hq.mono H.out.size)
        refine ⟨(hq.cell (p := ⟨w.heap.size, 1, none⟩) hwr).trans p1, (hb.cell (p := ⟨g, o + k * 5 + 3, none⟩) hg).trans c3, (hb.cell (p := ⟨g, o + k * 5 + 4, none⟩) hg).trans c4, fun ad e j u hu => ?_, fun ad e j u hu => ?_⟩
        · have hj : j < (nth D.steps k).keys.length := by have := (List.getElem?_eq_some_iff.1 hu).1; simpa using this
          obtain ⟨g2, o2, e2, hg2, e3⟩ := hkr j hj
          rw [e2] at e; cases e
          rw [Go.WideShapes.add_plain, (hb.cell (p := ⟨g2, o2 + j, none⟩) hg2).trans e3]
          rw [← hu]; simp [keyAt, List.getD, hj]
        · have hj : j < (nth D.steps k).needs.length := by have := (List.getElem?_eq_some_iff.1 hu).1; simpa using this
          obtain ⟨g2, o2, e2, hg2, e3⟩ := hnr j hj
          rw [e2] at e; cases e
          rw [Go.WideShapes.add_plain, (hb.cell (p := ⟨g2, o2 + j, none⟩) hg2).trans e3]
          rw [← hu]; simp [needAt, List.getD, hj]
      have HN1 : Hid (ka = none → (nth D.steps k).keys.length = 0 ∧ kc = 0) := fun e => ⟨by have := hk0 e; omega, hk0 e⟩
      have HN2 : Hid (na = none → (nth D.steps k).needs.length = 0 ∧ nc = 0) := fun e => ⟨by have := hn0 e; omega, hn0 e⟩
      have HO1 : Hid (∀ u ∈ (nth D.steps k).keys.map (fun s => Value.string s), u.oneCell' = true) := by
        intro u hu; obtain ⟨x, _, rfl⟩ := List.mem_map.1 hu; rfl
      have HO2 : Hid (∀ u ∈ (nth D.steps k).needs.map (fun n => Value.int .i64 n), u.oneCell' = true) := by
        intro u hu; obtain ⟨x, _, rfl⟩ := List.mem_map.1 hu; rfl
      have s1 : ∀ (w : World) (o : Obj), (w.alloc o).heap.size = w.heap.size + 1 := fun w o => by simp
      have HS5 : Hid (Has w.heap.size w (BlockR (wr.heap.size + 1) [.string (nth D.steps k).name, .int .i64 (nth D.steps k).kind, .int .i64 (nth D.steps k).part, .slice none 0 0, .slice none 0 0] :: BlockR wr.heap.size [.string (nth D.steps k).name, .int .i64 (nth D.steps k).kind, .int .i64 (nth D.steps k).part, .slice ka (nth D.steps k).keys.length kc, .slice na (nth D.steps k).needs.length nc] :: BlockR (w.heap.size + 1 + 1) [.string D.name, ov] :: BlockR (w.heap.size + 1) [.string ⟨#[]⟩, .slice none 0 0] :: BlockR w.heap.size [.string D.name, .slice (some ⟨g, o, none⟩) D.steps.length cap] :: rowsRes ov xs) ((wr.alloc (.cells #[.string (nth D.steps k).name, .int .i64 (nth D.steps k).kind, .int .i64 (nth D.steps k).part, .slice ka (nth D.steps k).keys.length kc, .slice na (nth D.steps k).needs.length nc] 42)).alloc (.cells #[.string (nth D.steps k).name, .int .i64 (nth D.steps k).kind, .int .i64 (nth D.steps k).part, .slice none 0 0, .slice none 0 0] 42))) := by
        have h2 := (H.out.box [.string (nth D.steps k).name, .int .i64 (nth D.steps k).kind, .int .i64 (nth D.steps k).part, .slice ka (nth D.steps k).keys.length kc, .slice na (nth D.steps k).needs.length nc] 42).box [.string (nth D.steps k).name, .int .i64 (nth D.steps k).kind, .int .i64 (nth D.steps k).part, .slice none 0 0, .slice none 0 0] 42
        rw [s1] at h2
        exact h2
      have HB5 : Hid (Below wr.heap.size wr ((wr.alloc (.cells #[.string (nth D.steps k).name, .int .i64 (nth D.steps k).kind, .int .i64 (nth D.steps k).part, .slice ka (nth D.steps k).keys.length kc, .slice na (nth D.steps k).needs.length nc] 42)).alloc (.cells #[.string (nth D.steps k).name, .int .i64 (nth D.steps k).kind, .int .i64 (nth D.steps k).part, .slice none 0 0, .slice none 0 0] 42))) := ((Below.refl _ _).alloc (Nat.le_refl _) _).alloc (by rw [s1]; omega) _
      have hne1 : ¬ w.heap.size = wr.heap.size := by omega
      have hne2 : ¬ g = wr.heap.size := by omega
      have hne3 : ¬ wr.heap.size = w.heap.size := by omega
      have hne4 : ¬ wr.heap.size = g := by omega
      have d3 := (H.out.bel.cell (p := ⟨g, o + k * 5 + 3, none⟩) hg).trans c3
      have d4 := (H.out.bel.cell (p := ⟨g, o + k * 5 + 4, none⟩) hg).trans c4
      clear c3 c4 hkr hnr hk0 hn0 H
      go_upto_region 7 with fail
      generalize ((wr.alloc (.cells #[.string (nth D.steps k).name, .int .i64 (nth D.steps k).kind, .int .i64 (nth D.steps k).part, .slice ka (nth D.steps k).keys.length kc, .slice na (nth D.steps k).needs.length nc] 42)).alloc (.cells #[.string (nth D.steps k).name, .int .i64 (nth D.steps k).kind, .int .i64 (nth D.steps k).part, .slice none 0 0, .slice none 0 0] 42)) = w5 at *
      clear d0 d1 d2 d3 d4 p1
      obtain ⟨x1, x3, x4, x5, x6⟩ := HX.out _ HB5.out
      obtain ⟨s3, f3⟩ := HS5.out.cell List.mem_cons_self 3 _ rfl
      obtain ⟨a3, _⟩ := HS5.out.cell (q := wr.heap.size) (vs := [.string (nth D.steps k).name, .int .i64 (nth D.steps k).kind, .int .i64 (nth D.steps k).part, .slice ka (nth D.steps k).keys.length kc, .slice na (nth D.steps k).needs.length nc]) (by simp) 3 _ rfl
      have KX : (ka = none ∧ (nth D.steps k).keys.length = 0 ∧ kc = 0) ∨ ∃ ad, ka = some ad ∧ ∀ j u, ((nth D.steps k).keys.map fun s => Value.string s)[j]? = some u → w5.cell? (ad.add j) = some u := by
        cases ka with
        | none => exact Or.inl ⟨rfl, HN1.out rfl⟩
        | some ad => exact Or.inr ⟨ad, rfl, x5 ad rfl⟩
      clear x1 x3 x4 x6
      go_wp2_with (at_builtin; refine wpList_append_any _ rfl _ _ 40 rfl w5.heap.size 9 is (.string ⟨#[]⟩) 1 16 Tryd.underlying40 his hs0 hs1 hs2 rfl (by decide) w5 (Below.refl _ _) (Nat.le_refl _) _ 0 [] rfl (World.ownsRow_nil _ _ _ _) ka (nth D.steps k).keys.length kc ((nth D.steps k).keys.map fun s => Value.string s) rfl (by simp) KX HO1.out (by unfold maxLen; omega) (by omega) ?_)
      intro ka6 kc6 w6 ho6 hb6 hs6
      have h6 := (HS5.out.row ho6 hb6).perm (List.Perm.swap _ _ _)
      obtain ⟨q3, qf3⟩ := h6.cell List.mem_cons_self 3 _ rfl
      have HS7 : Hid (Has w.heap.size w (BlockR (wr.heap.size + 1) [.string (nth D.steps k).name, .int .i64 (nth D.steps k).kind, .int .i64 (nth D.steps k).part, .slice ka6 (nth D.steps k).keys.length kc6, .slice none 0 0] :: KR (.slice ka6 (nth D.steps k).keys.length kc6) (nth D.steps k).keys :: BlockR wr.heap.size [.string (nth D.steps k).name, .int .i64 (nth D.steps k).kind, .int .i64 (nth D.steps k).part, .slice ka (nth D.steps k).keys.length kc, .slice na (nth D.steps k).needs.length nc] :: BlockR (w.heap.size + 1 + 1) [.string D.name, ov] :: BlockR (w.heap.size + 1) [.string ⟨#[]⟩, .slice none 0 0] :: BlockR w.heap.size [.string D.name, .slice (some ⟨g, o, none⟩) D.steps.length cap] :: rowsRes ov xs) (w6.setCell ⟨wr.heap.size + 1, 3, none⟩ (.slice ka6 (nth D.steps k).keys.length kc6))) := h6.put 3 (by simp) (.slice ka6 (nth D.steps k).keys.length kc6)
      have HB7 : Hid (Below wr.heap.size wr (w6.setCell ⟨wr.heap.size + 1, 3, none⟩ (.slice ka6 (nth D.steps k).keys.length kc6))) := (HB5.out.trans (hb6.mono HB5.out.size)).trans (below_chg (chg_set _ _ _) (by have := HB5.out.size; omega) (fun k hk e => by simp only at e; omega))
      clear h6 ho6 hb6 hs6 HS5 HB5 s3 f3 a3 KX x5
      go_upto_region 8 with fail
      clear q3 qf3
      generalize (w6.setCell ⟨wr.heap.size + 1, 3, none⟩ (.slice ka6 (nth D.steps k).keys.length kc6)) = w7 at *
      obtain ⟨x1, x3, x4, x5, x6⟩ := HX.out _ HB7.out
      obtain ⟨s4, f4⟩ := HS7.out.cell List.mem_cons_self 4 _ rfl
      obtain ⟨a4, _⟩ := HS7.out.cell (q := wr.heap.size) (vs := [.string (nth D.steps k).name, .int .i64 (nth D.steps k).kind, .int .i64 (nth D.steps k).part, .slice ka (nth D.steps k).keys.length kc, .slice na (nth D.steps k).needs.length nc]) (by simp) 4 _ rfl
      have KX : (na = none ∧ (nth D.steps k).needs.length = 0 ∧ nc = 0) ∨ ∃ ad, na = some ad ∧ ∀ j u, ((nth D.steps k).needs.map fun n => Value.int .i64 n)[j]? = some u → w7.cell? (ad.add j) = some u := by
        cases na with
        | none => exact Or.inl ⟨rfl, HN2.out rfl⟩
        | some ad => exact Or.inr ⟨ad, rfl, x6 ad rfl⟩
      clear x1 x3 x4 x5
      go_wp2_with (at_builtin; refine wpList_append_any _ rfl _ _ 26 rfl w7.heap.size 3 ii (.int .i64 0) 1 8 Tryd.underlying26 hii hi0 hi1 hi2 rfl (by decide) w7 (Below.refl _ _) (Nat.le_refl _) _ 0 [] rfl (World.ownsRow_nil _ _ _ _) na (nth D.steps k).needs.length nc ((nth D.steps k).needs.map fun n => Value.int .i64 n) rfl (by simp) KX HO2.out (by unfold maxLen; omega) (by omega) ?_)
      intro na6 nc6 w8 ho8 hb8 hs8
      have h8 := (HS7.out.row ho8 hb8).perm (List.Perm.swap _ _ _)
      obtain ⟨q4, qf4⟩ := h8.cell List.mem_cons_self 4 _ rfl
      have HS9 : Hid (Has w.heap.size w (BlockR (wr.heap.size + 1) [.string (nth D.steps k).name, .int .i64 (nth D.steps k).kind, .int .i64 (nth D.steps k).part, .slice ka6 (nth D.steps k).keys.length kc6, .slice na6 (nth D.steps k).needs.length nc6] :: NR (.slice na6 (nth D.steps k).needs.length nc6) (nth D.steps k).needs :: KR (.slice ka6 (nth D.steps k).keys.length kc6) (nth D.steps k).keys :: BlockR (w.heap.size + 1 + 1) [.string D.name, ov] :: BlockR (w.heap.size + 1) [.string ⟨#[]⟩, .slice none 0 0] :: BlockR w.heap.size [.string D.name, .slice (some ⟨g, o, none⟩) D.steps.length cap] :: rowsRes ov xs) (w8.setCell ⟨wr.heap.size + 1, 4, none⟩ (.slice na6 (nth D.steps k).needs.length nc6))) := ((h8.put 4 (by simp) (.slice na6 (nth D.steps k).needs.length nc6)).perm (List.perm_middle (l₁ := [_, _, _]))).drop
      clear h8 ho8 hb8 hs8 HS7 HB7 s4 f4 a4 KX x6 HX
      go_upto_region 9 with fail
      clear q4 qf4
      generalize (w8.setCell ⟨wr.heap.size + 1, 4, none⟩ (.slice na6 (nth D.steps k).needs.length nc6)) = wc at *
      have H9 := HS9.out
      obtain ⟨t0, _⟩ := H9.cell List.mem_cons_self 0 _ rfl
      obtain ⟨t1, _⟩ := H9.cell List.mem_cons_self 1 _ rfl
      obtain ⟨t2, _⟩ := H9.cell List.mem_cons_self 2 _ rfl
      obtain ⟨t3, _⟩ := H9.cell List.mem_cons_self 3 _ rfl
      obtain ⟨t4, _⟩ := H9.cell List.mem_cons_self 4 _ rfl
      obtain ⟨t5, t6⟩ := H9.cell (q := w.heap.size + 1 + 1) (vs := [.string D.name, ov]) (by simp) 1 _ rfl
      have hown := H9.own (t := 42) (size := 5) (v := ov) (n := xs.length) (xs := ccells xs) (by simp [rowsRes])
      obtain ⟨oo, oc, rfl, _⟩ := own_form hown
      have HOWN : Hid (wc.ownsRow 0 42 5 (.slice oo xs.length oc) xs.length (ccells xs)) := hown
      clear hown H9
      go_wp2_with (at_builtin; refine wpList_append_more _ rfl _ _ 22 rfl 0 42 ip (.agg #[.string ⟨#[]⟩, .int .i64 0, .int .i64 0, .slice none 0 0, .slice none 0 0]) 5 80 Tryd.underlying22 hip hp0 hp1 hp2 rfl (by decide) _ xs.length (ccells xs) rfl (HOWN.out.alloc _) ⟨_, 0, none⟩ 1 1 [.string (nth D.steps k).name, .int .i64 (nth D.steps k).kind, .int .i64 (nth D.steps k).part, .slice ka6 (nth D.steps k).keys.length kc6, .slice na6 (nth D.steps k).needs.length nc6] rfl rfl (cells_new _ _ _) (one_five _ _ _ _ _ _ _ _ _) (by decide) (by have := HL.out; unfold maxLen; omega) (by have := HL.out; omega) ?_)
      intro g2 cap2 w8 hown8 hwh8 hch8
      have h10 := ((HS9.out.below ((Below.refl _ _).alloc (Nat.le_refl _) _)).perm (List.perm_middle (l₁ := [_, _, _, _, _, _]))).grow (v' := (.slice (some ⟨g2, 0, none⟩) (xs.length + 1) cap2)) (m := xs.length + 1) (ys := ccells xs ++ [.string (nth D.steps k).name, .int .i64 (nth D.steps k).kind, .int .i64 (nth D.steps k).part, .slice ka6 (nth D.steps k).keys.length kc6, .slice na6 (nth D.steps k).needs.length nc6]) (w2 := w8) hown8 (fun g1 hg1 => by
        obtain rfl : g2 = g1 := by simpa [Value.ownBlock] using hg1
        rcases hwh8 with e | e
        · exact Or.inl e
        · exact Or.inr (by simpa using e)) hch8
      have h11 := h10.perm (List.perm_middle (l₁ := [_, _, _, _]))
      obtain ⟨z1, z2⟩ := h11.cell List.mem_cons_self 1 _ rfl
      have h12 := rows_more (xs := xs) (x := ⟨nth D.steps k, .slice ka6 (nth D.steps k).keys.length kc6, .slice na6 (nth D.steps k).needs.length nc6⟩) (h11.put 1 (by simp) (.slice (some ⟨g2, 0, none⟩) (xs.length + 1) cap2)) (by simp) (by rw [ccells_append]; rfl)
      have H12 : Hid _ := h12
      have HL2 : Hid ((xs ++ [(⟨nth D.steps k, .slice ka6 (nth D.steps k).keys.length kc6, .slice na6 (nth D.steps k).needs.length nc6⟩ : Cm)]).length = k + 1) := by show _ = _; rw [List.length_append, HL.out]; rfl
      have HM2 : Hid ((xs ++ [(⟨nth D.steps k, .slice ka6 (nth D.steps k).keys.length kc6, .slice na6 (nth D.steps k).needs.length nc6⟩ : Cm)]).map (·.st) = D.steps.take (k + 1)) := by
        show _ = _
        rw [List.map_append, HM.out, List.map_cons, List.map_nil, nth_eq hlt, List.take_append_getElem]
      clear h10 h11 h12 hown8 hwh8 hch8 t0 t1 t2 t3 t4 t5 t6 HS9 HOWN
      go_wp2
      exact ⟨⟨k + 1, _, _, by omega, by go_num, HL2, HM2, H12⟩, by simp [intOf]; omega⟩
    · obtain rfl : k = D.steps.length := by omega
      have H0 := H.out
      obtain ⟨t0, _⟩ := H0.cell List.mem_cons_self 0 _ rfl
      obtain ⟨t1, _⟩ := H0.cell List.mem_cons_self 1 _ rfl
      have H1 := H0.perm (List.Perm.swap _ _ _)
      obtain ⟨r0, f0⟩ := H1.cell List.mem_cons_self 0 _ rfl
      obtain ⟨r1, f1⟩ := H1.cell List.mem_cons_self 1 _ rfl
      obtain ⟨oo, oc, rfl, _⟩ := own_form (H0.own (t := 42) (size := 5) (v := ov) (n := xs.length) (xs := ccells xs) (by simp [rowsRes]))
      have H2 := (H1.put 0 (by simp) (.string D.name)).put 1 (by simp) (.slice oo xs.length oc)
      obtain ⟨e0, _⟩ := H2.cell List.mem_cons_self 0 _ rfl
      obtain ⟨e1, _⟩ := H2.cell List.mem_cons_self 1 _ rfl
      have HE0 : Hid _ := e0
      have HE1 : Hid _ := e1
      have HFIN : Hid _ := H2.drop.drop.drop
      have HM3 : Hid (xs.map (·.st) = D.steps) := by have := HM.out; rwa [List.take_length] at this
      clear H0 H1 H2 e0 e1 HM H
      go_wp2
      refine bodyPost_ret (results_cell2 rfl _ _ (w.heap.size + 1) _ _ _ rfl HE0.out HE1.out Tryd.underlying24 rfl (by kernel_rfl)) rfl ⟨_, xs, rfl, HM3.out, HFIN.out⟩
end Go.Proofs.YtmjnllldjeeigaaDoor

/- The walk of odysseyref10.Same. -/
set_option linter.unusedVariables false
set_option maxRecDepth 100000
namespace Go.Proofs.YtmjnllldjeeigaaDoor
open Go.RowKit CheckMath

theorem box_two {w : World} {n1 n2 : ByteArray} {ao bo : Option Addr} {k1 c1 k2 c2 : Nat} (wq : World) (hb : Below ((w.alloc (.cells #[.string n1, .slice ao k1 c1] 24)).alloc (.cells #[.string n2, .slice bo k2 c2] 24)).heap.size ((w.alloc (.cells #[.string n1, .slice ao k1 c1] 24)).alloc (.cells #[.string n2, .slice bo k2 c2] 24)) wq) :
    Below w.heap.size w wq ∧ wq.cell? ⟨w.heap.size, 1, none⟩ = some (.slice ao k1 c1) ∧ wq.cell? ⟨w.heap.size + 1, 1, none⟩ = some (.slice bo k2 c2) := by
  have hb0 : Below w.heap.size w (w.alloc (.cells #[.string n1, .slice ao k1 c1] 24)) := (Below.refl _ _).alloc (Nat.le_refl _) _
  have hs1 : (w.alloc (.cells #[.string n1, .slice ao k1 c1] 24)).heap.size = w.heap.size + 1 := by simp
  generalize hw0 : w.alloc (.cells #[.string n1, .slice ao k1 c1] 24) = w0 at *
  have h1 : Below w0.heap.size w0 (w0.alloc (.cells #[.string n2, .slice bo k2 c2] 24)) := (Below.refl _ _).alloc (Nat.le_refl _) _
  have h2 : Below w0.heap.size w0 wq := h1.trans (hb.mono h1.size)
  refine ⟨hb0.trans (h2.mono hb0.size), ?_, ?_⟩
  · rw [h2.cell (p := ⟨w.heap.size, 1, none⟩) (by show w.heap.size < _; omega), ← hw0, World.cell?_alloc_new]; rfl
  · rw [hb.cell (p := ⟨w.heap.size + 1, 1, none⟩) (by simp; omega), ← hs1, World.cell?_alloc_new]; rfl
set_option maxHeartbeats 6000000 in
theorem refSame_any (u v : Value) (D : DefD) (w : World) (hu : DefIn w u D) (hv : DefIn w v D) :
    Calls Tryd.prog 16 #[u, v] w fun e w' => e = .returned (.bool true) ∧ Below w.heap.size w w' := by
  obtain ⟨sv, rfl, hd⟩ := hu
  obtain ⟨tv, rfl, hd2⟩ := hv
  obtain ⟨ao, cap, rfl, hcap, _, hlen, hrow⟩ := hd
  obtain ⟨bo, cbp, rfl, hcbp, _, _, hrow2⟩ := hd2
  have HR : Hid (∀ j, j < D.steps.length → ∃ g o, ao = some ⟨g, o, none⟩ ∧ g < w.heap.size ∧ StepIn w g (o + j * 5) (nth D.steps j)) := hrow
  have HR2 : Hid (∀ j, j < D.steps.length → ∃ g o, bo = some ⟨g, o, none⟩ ∧ g < w.heap.size ∧ StepIn w g (o + j * 5) (nth D.steps j)) := hrow2
  have HW : Hid (∀ wq, Below ((w.alloc (.cells #[.string D.name, .slice ao D.steps.length cap] 24)).alloc (.cells #[.string D.name, .slice bo D.steps.length cbp] 24)).heap.size ((w.alloc (.cells #[.string D.name, .slice ao D.steps.length cap] 24)).alloc (.cells #[.string D.name, .slice bo D.steps.length cbp] 24)) wq → Below w.heap.size w wq ∧ wq.cell? ⟨w.heap.size, 1, none⟩ = some (.slice ao D.steps.length cap) ∧ wq.cell? ⟨w.heap.size + 1, 1, none⟩ = some (.slice bo D.steps.length cbp)) := fun wq hb => box_two wq hb
  have HB0 : Hid (Below ((w.alloc (.cells #[.string D.name, .slice ao D.steps.length cap] 24)).alloc (.cells #[.string D.name, .slice bo D.steps.length cbp] 24)).heap.size ((w.alloc (.cells #[.string D.name, .slice ao D.steps.length cap] 24)).alloc (.cells #[.string D.name, .slice bo D.steps.length cbp] 24)) ((w.alloc (.cells #[.string D.name, .slice ao D.steps.length cap] 24)).alloc (.cells #[.string D.name, .slice bo D.steps.length cbp] 24))) := Below.refl _ _
  clear hrow hrow2
  go_enter Tryd.func16, Tryd.ntmps16
  go_wp2
  generalize ((w.alloc (.cells #[.string D.name, .slice ao D.steps.length cap] 24)).alloc (.cells #[.string D.name, .slice bo D.steps.length cbp] 24)) = w0 at *
  go_loopw [5, 6, 7, 8, 9] (fun k _ _ _ _ wr => ∃ n : Nat, n ≤ D.steps.length ∧ k = .int .i64 (n : Int) ∧ Hid (Below w0.heap.size w0 wr)) (fun k _ _ _ _ _ => D.steps.length - (intOf k).toNat)
  case atStart => exact ⟨0, Nat.zero_le _, rfl, HB0⟩
  case round =>
    obtain ⟨n, hn, rfl, HB⟩ := hrel
    obtain ⟨hbw, p1, p2⟩ := HW.out _ HB.out
    by_cases hlt : n < D.steps.length
    · obtain ⟨g, o, rfl, hg, hs⟩ := HR.out n hlt
      obtain ⟨g2, o2, rfl, hg2, hs2⟩ := HR2.out n hlt
      obtain ⟨c0, c1, c2, kv, nv, c3, c4, c5, c6⟩ := hs.below hg hbw
      obtain ⟨d0, d1, d2, kv2, nv2, d3, d4, d5, d6⟩ := hs2.below hg2 hbw
      have hltI : (n : Int) < (D.steps.length : Int) := by omega
      have hgr : g < wr.heap.size := Nat.lt_of_lt_of_le hg hbw.size
      have hgr2 : g2 < wr.heap.size := Nat.lt_of_lt_of_le hg2 hbw.size
      have hlt1 : w.heap.size < wr.heap.size := block_lt_of_cell p1
      have hlt2 : w.heap.size + 1 < wr.heap.size := block_lt_of_cell p2
      have HBX : Hid (Below wr.heap.size wr ((wr.alloc (.cells #[.string (nth D.steps n).name, .int .i64 (nth D.steps n).kind, .int .i64 (nth D.steps n).part, kv, nv] 42)).alloc (.cells #[.string (nth D.steps n).name, .int .i64 (nth D.steps n).kind, .int .i64 (nth D.steps n).part, kv2, nv2] 42))) := ((Below.refl _ _).alloc (Nat.le_refl _) _).alloc (by simp) _
      have HS3 : Hid (Has wr.heap.size wr [BlockR (wr.heap.size + 1) [.string (nth D.steps n).name, .int .i64 (nth D.steps n).kind, .int .i64 (nth D.steps n).part, kv2, nv2], BlockR wr.heap.size [.string (nth D.steps n).name, .int .i64 (nth D.steps n).kind, .int .i64 (nth D.steps n).part, kv, nv]] ((wr.alloc (.cells #[.string (nth D.steps n).name, .int .i64 (nth D.steps n).kind, .int .i64 (nth D.steps n).part, kv, nv] 42)).alloc (.cells #[.string (nth D.steps n).name, .int .i64 (nth D.steps n).kind, .int .i64 (nth D.steps n).part, kv2, nv2] 42))) := by
        have s1 : ∀ (w : World) (o : Obj), (w.alloc o).heap.size = w.heap.size + 1 := fun w o => by simp
        have h2 := ((Has.start wr).box [.string (nth D.steps n).name, .int .i64 (nth D.steps n).kind, .int .i64 (nth D.steps n).part, kv, nv] 42).box [.string (nth D.steps n).name, .int .i64 (nth D.steps n).kind, .int .i64 (nth D.steps n).part, kv2, nv2] 42
        rw [s1] at h2
        exact h2
      have HK1 : Hid (KRow wr kv (nth D.steps n).keys) := c5
      have HK2 : Hid (KRow wr kv2 (nth D.steps n).keys) := d5
      have HI1 : Hid (IRow wr nv (nth D.steps n).needs) := c6
      have HI2 : Hid (IRow wr nv2 (nth D.steps n).needs) := d6
      obtain ⟨ka, kc, hkv⟩ := c5.slice
      obtain ⟨na, nc, hnv⟩ := c6.slice
      obtain ⟨ka2, kc2, hkv2⟩ := d5.slice
      obtain ⟨na2, nc2, hnv2⟩ := d6.slice
      subst hkv hnv hkv2 hnv2
      have HB3 : Hid (Below wr.heap.size wr ((wr.alloc (.cells #[.string (nth D.steps n).name, .int .i64 (nth D.steps n).kind, .int .i64 (nth D.steps n).part, .slice ka (nth D.steps n).keys.length kc, .slice na (nth D.steps n).needs.length nc] 42)).alloc (.cells #[.string (nth D.steps n).name, .int .i64 (nth D.steps n).kind, .int .i64 (nth D.steps n).part, .slice ka2 (nth D.steps n).keys.length kc2, .slice na2 (nth D.steps n).needs.length nc2] 42))) := HBX.out
      have HST : Hid (Below ((wr.alloc (.cells #[.string (nth D.steps n).name, .int .i64 (nth D.steps n).kind, .int .i64 (nth D.steps n).part, .slice ka (nth D.steps n).keys.length kc, .slice na (nth D.steps n).needs.length nc] 42)).alloc (.cells #[.string (nth D.steps n).name, .int .i64 (nth D.steps n).kind, .int .i64 (nth D.steps n).part, .slice ka2 (nth D.steps n).keys.length kc2, .slice na2 (nth D.steps n).needs.length nc2] 42)).heap.size ((wr.alloc (.cells #[.string (nth D.steps n).name, .int .i64 (nth D.steps n).kind, .int .i64 (nth D.steps n).part, .slice ka (nth D.steps n).keys.length kc, .slice na (nth D.steps n).needs.length nc] 42)).alloc (.cells #[.string (nth D.steps n).name, .int .i64 (nth D.steps n).kind, .int .i64 (nth D.steps n).part, .slice ka2 (nth D.steps n).keys.length kc2, .slice na2 (nth D.steps n).needs.length nc2] 42)) ((wr.alloc (.cells #[.string (nth D.steps n).name, .int .i64 (nth D.steps n).kind, .int .i64 (nth D.steps n).part, .slice ka (nth D.steps n).keys.length kc, .slice na (nth D.steps n).needs.length nc] 42)).alloc (.cells #[.string (nth D.steps n).name, .int .i64 (nth D.steps n).kind, .int .i64 (nth D.steps n).part, .slice ka2 (nth D.steps n).keys.length kc2, .slice na2 (nth D.steps n).needs.length nc2] 42))) := Below.refl _ _
      clear c5 c6 d5 d6 HR HR2 hs hs2 hbw HBX
      go_wp2_with fail
      generalize ((wr.alloc (.cells #[.string (nth D.steps n).name, .int .i64 (nth D.steps n).kind, .int .i64 (nth D.steps n).part, .slice ka (nth D.steps n).keys.length kc, .slice na (nth D.steps n).needs.length nc] 42)).alloc (.cells #[.string (nth D.steps n).name, .int .i64 (nth D.steps n).kind, .int .i64 (nth D.steps n).part, .slice ka2 (nth D.steps n).keys.length kc2, .slice na2 (nth D.steps n).needs.length nc2] 42)) = w3 at *
      clear c0 c1 c2 c3 c4 d0 d1 d2 d3 d4 p1 p2
      rcases (⟨wr, rfl⟩ : ∃ wo, wo = wr) with ⟨wo, rfl⟩
      go_loopw [8] (fun k wq => ∃ m : Nat, m ≤ (nth D.steps n).keys.length ∧ k = .int .i64 (m : Int) ∧ Hid (Below w3.heap.size w3 wq)) (fun k _ => (nth D.steps n).keys.length - (intOf k).toNat)
      case atStart => exact ⟨0, Nat.zero_le _, rfl, HST⟩
      case round =>
        obtain ⟨m, hm, rfl, HBM⟩ := hrel
        obtain ⟨t1, _⟩ := (HS3.out.below HBM.out).cell (q := wo.heap.size) (vs := [.string (nth D.steps n).name, .int .i64 (nth D.steps n).kind, .int .i64 (nth D.steps n).part, .slice ka (nth D.steps n).keys.length kc, .slice na (nth D.steps n).needs.length nc]) (by simp) 3 _ rfl
        obtain ⟨t2, _⟩ := (HS3.out.below HBM.out).cell (q := wo.heap.size + 1) (vs := [.string (nth D.steps n).name, .int .i64 (nth D.steps n).kind, .int .i64 (nth D.steps n).part, .slice ka2 (nth D.steps n).keys.length kc2, .slice na2 (nth D.steps n).needs.length nc2]) (by simp) 3 _ rfl
        by_cases hltm : m < (nth D.steps n).keys.length
        · obtain ⟨_, _, e1, _, _, _, r1⟩ := HK1.out
          obtain ⟨_, _, e2, _, _, _, r2⟩ := HK2.out
          cases e1
          cases e2
          obtain ⟨g3, o3, rfl, hg3, f1⟩ := r1 m hltm
          obtain ⟨g4, o4, rfl, hg4, f2⟩ := r2 m hltm
          have hbx := HB3.out.trans (HBM.out.mono HB3.out.size)
          have f3 := (hbx.cell (p := ⟨g3, o3 + m, none⟩) hg3).trans f1
          have f4 := (hbx.cell (p := ⟨g4, o4 + m, none⟩) hg4).trans f2
          have hltM : (m : Int) < ((nth D.steps n).keys.length : Int) := by omega
          clear f1 f2 r1 r2 hbx HK1 HK2 HI1 HI2 HS3
          generalize keyAt (nth D.steps n).keys m = z at *
          go_wp2
          go_quiet (fail)
          go_wp2
          exact ⟨⟨m + 1, by omega, by go_num, below_drewN HBM.out _⟩, by simp [intOf]; omega⟩
        · have hltM : ¬ (m : Int) < ((nth D.steps n).keys.length : Int) := by omega
          have HST2 : Hid (Below w3.heap.size w3 wr) := HBM
          clear HST
          go_wp2
          clear t1 t2
          go_loopw [9] (fun k wq => ∃ m : Nat, m ≤ (nth D.steps n).needs.length ∧ k = .int .i64 (m : Int) ∧ Hid (Below w3.heap.size w3 wq)) (fun k _ => (nth D.steps n).needs.length - (intOf k).toNat)
          case atStart => exact ⟨0, Nat.zero_le _, rfl, HST2⟩
          case round =>
            obtain ⟨m, hm, rfl, HBM⟩ := hrel
            obtain ⟨t1, _⟩ := (HS3.out.below HBM.out).cell (q := wo.heap.size) (vs := [.string (nth D.steps n).name, .int .i64 (nth D.steps n).kind, .int .i64 (nth D.steps n).part, .slice ka (nth D.steps n).keys.length kc, .slice na (nth D.steps n).needs.length nc]) (by simp) 4 _ rfl
            obtain ⟨t2, _⟩ := (HS3.out.below HBM.out).cell (q := wo.heap.size + 1) (vs := [.string (nth D.steps n).name, .int .i64 (nth D.steps n).kind, .int .i64 (nth D.steps n).part, .slice ka2 (nth D.steps n).keys.length kc2, .slice na2 (nth D.steps n).needs.length nc2]) (by simp) 4 _ rfl
            by_cases hltm : m < (nth D.steps n).needs.length
            · obtain ⟨_, _, e1, _, _, _, r1⟩ := HI1.out
              obtain ⟨_, _, e2, _, _, _, r2⟩ := HI2.out
              cases e1
              cases e2
              obtain ⟨g3, o3, rfl, hg3, f1⟩ := r1 m hltm
              obtain ⟨g4, o4, rfl, hg4, f2⟩ := r2 m hltm
              have hbx := HB3.out.trans (HBM.out.mono HB3.out.size)
              have f3 := (hbx.cell (p := ⟨g3, o3 + m, none⟩) hg3).trans f1
              have f4 := (hbx.cell (p := ⟨g4, o4 + m, none⟩) hg4).trans f2
              have hltM : (m : Int) < ((nth D.steps n).needs.length : Int) := by omega
              clear f1 f2 r1 r2 hbx HK1 HK2 HI1 HI2 HS3
              generalize needAt (nth D.steps n).needs m = z at *
              go_wp2
              go_quiet (fail)
              go_wp2
              exact ⟨⟨m + 1, by omega, by go_num, below_drewN HBM.out _⟩, by simp [intOf]; omega⟩
            · have hltM : ¬ (m : Int) < ((nth D.steps n).needs.length : Int) := by omega
              have HBF : Hid (Below w0.heap.size w0 wr) := HB.out.trans ((HB3.out.trans (HBM.out.mono HB3.out.size)).mono HB.out.size)
              clear HK1 HK2 HI1 HI2 HS3 HB3
              go_wp2
              exact ⟨⟨n + 1, by omega, by go_num, HBF⟩, by simp [intOf]; omega⟩
    · have hltI : ¬ (n : Int) < (D.steps.length : Int) := by omega
      clear HR HR2
      go_wp2
      go_ret
      exact ⟨rfl, hbw⟩
end Go.Proofs.YtmjnllldjeeigaaDoor

/- What the rows share: the settled world; a definition that came in, read as data. -/
set_option linter.unusedVariables false
namespace Go.Proofs.YtmjnllldjeeigaaDoor
open Go.ChangeShapes Go.WideShapes Go.ChangeAt Go.RowKit CheckMath

instance : Inhabited StepD := ⟨⟨ByteArray.empty, 0, 0, [], []⟩⟩
theorem Tryd.laidOut : laidOutB Tryd.prog = true := by kernel_rfl
theorem keyAt_map (f : Nat → ByteArray) (n j : Nat) (h : j < n) : keyAt ((List.range n).map f) j = f j := by simp [keyAt, List.getD, h]
theorem needAt_map (f : Nat → Int) (n j : Nat) (h : j < n) : needAt ((List.range n).map f) j = f j := by simp [needAt, List.getD, h]
theorem nth_map (f : Nat → StepD) (n j : Nat) (h : j < n) : nth ((List.range n).map f) j = f j := by simp [nth, List.getD, h]
/-- How the data of lists look. -/
def KDat {H : Type} (d : DataW H) (l : List ByteArray) : Prop := (d = .nil ∧ l = []) ∨ ∃ sp, d = .slice (l.map fun s => .lit (.string s.data.toList)) sp
def IDat {H : Type} (d : DataW H) (l : List Int) : Prop := (d = .nil ∧ l = []) ∨ ∃ sp, d = .slice (l.map fun n => .lit (.int .i64 n)) sp
/-- The rows without what is known of their sizes. -/
def KRow0 (w : World) (v : Value) (xs : List ByteArray) : Prop := ∃ ao cap, v = .slice ao xs.length cap ∧ xs.length ≤ cap ∧ (ao = none → cap = 0) ∧
  ∀ j, j < xs.length → ∃ g o, ao = some ⟨g, o, none⟩ ∧ g < w.heap.size ∧ w.cell? ⟨g, o + j, none⟩ = some (.string (keyAt xs j))
def IRow0 (w : World) (v : Value) (xs : List Int) : Prop := ∃ ao cap, v = .slice ao xs.length cap ∧ xs.length ≤ cap ∧ (ao = none → cap = 0) ∧
  ∀ j, j < xs.length → ∃ g o, ao = some ⟨g, o, none⟩ ∧ g < w.heap.size ∧ w.cell? ⟨g, o + j, none⟩ = some (.int .i64 (needAt xs j))
theorem i64_ok {n : Int} (h : (Lit.int .i64 n).wf = true) : -9223372036854775808 ≤ n ∧ n ≤ 9223372036854775807 := by
  simpa [Lit.wf, IntKind.min, IntKind.max, IntKind.bits, IntKind.signed] using h

section
variable {H : Type} {enc : TypeId × Value → H} {w : World} {n : Nat}
theorem open_keys {cs : List Value} {x : DataW H × List MemPlace} (h : DataW.trod enc Tryd.prog w 0 (fun _ => true) true n 40 cs = some x) : ∃ kv l, cs = [kv] ∧ KRow0 w kv l ∧ KDat x.1 l := by
  rcases Go.Deep.open_strs Tryd.underlying40 Tryd.underlying9 (by kernel_rfl) h with ⟨hcs, hx⟩ | ⟨a, len, cap, m, Sx, hcs, _, hl, hm, hmm, hx, hcell⟩
  · exact ⟨_, [], hcs, ⟨none, 0, rfl, Nat.le_refl _, fun _ => rfl, fun j hj => by simp at hj⟩, Or.inl ⟨by rw [hx], rfl⟩⟩
  · simp only [if_true] at hmm
    subst hmm
    refine ⟨_, (List.range len).map Sx, hcs, ⟨some a, m, by simp, by simpa using hl, fun h => (by cases h), fun j hj => ?_⟩, Or.inr ⟨_, by rw [hx, List.map_map]; rfl⟩⟩
    simp at hj
    obtain ⟨b, off, spot⟩ := a
    have hspot : spot = none := by simpa [Addr.add] using World.cell?_spot (hcell 0 (by omega)).1
    subst hspot
    have := (hcell j (by omega)).1
    rw [add_plain] at this
    refine ⟨b, off, rfl, block_lt_of_cell this, ?_⟩
    rw [this, keyAt_map _ _ _ hj]
theorem open_needs {cs : List Value} {x : DataW H × List MemPlace} (h : DataW.trod enc Tryd.prog w 0 (fun _ => true) true n 26 cs = some x) : ∃ nv l, cs = [nv] ∧ IRow0 w nv l ∧ IDat x.1 l := by
  have ci : Tryd.prog.cellsOf 3 = 1 := by kernel_rfl
  rcases Go.Deep.open_slice Tryd.underlying26 h with ⟨hcs, hx⟩ | ⟨a, len, cap, m, n', D, Pl, hcs, _, hl, hm, hmm, hx, hcell⟩
  · exact ⟨_, [], hcs, ⟨none, 0, rfl, Nat.le_refl _, fun _ => rfl, fun j hj => by simp at hj⟩, Or.inl ⟨by rw [hx], rfl⟩⟩
  · simp only [if_true] at hmm
    subst hmm
    rw [ci] at hcell
    have each : ∀ i, i < m → ∃ v : Int, w.cell? (a.add i) = some (.int .i64 v) ∧ D i = .lit (.int .i64 v) := fun i hi => by
      obtain ⟨cs', h1, h2⟩ := hcell i hi
      obtain ⟨v, e1, e2, _⟩ := DataW.trod_int Tryd.underlying3 h2
      simp only [Prod.mk.injEq] at e2
      refine ⟨v, ?_, e2.1⟩
      obtain ⟨_, _, hc⟩ := World.cells?_some h1
      have := hc 0 (by decide)
      rw [e1, Nat.mul_one] at this
      simpa [Addr.add] using this
    obtain ⟨V, hV⟩ := Go.Deep.choose_lt each
    refine ⟨_, (List.range len).map V, hcs, ⟨some a, m, by simp, by simpa using hl, fun h => (by cases h), fun j hj => ?_⟩, Or.inr ⟨(List.range (m - len)).map fun j => D (len + j), ?_⟩⟩
    · simp at hj
      obtain ⟨b, off, spot⟩ := a
      have hspot : spot = none := by simpa [Addr.add] using World.cell?_spot (hV 0 (by omega)).1
      subst hspot
      have := (hV j (by omega)).1
      rw [add_plain] at this
      refine ⟨b, off, rfl, block_lt_of_cell this, ?_⟩
      rw [this, needAt_map _ _ _ hj]
    · rw [hx, List.map_map]
      show DataW.slice _ _ = _
      congr 1
      apply List.map_congr_left
      intro i hi
      exact (hV i (by have := List.mem_range.1 hi; omega)).2
/-- A step's cells and its data. -/
def StDat (d : DataW H) (s : StepD) : Prop := ∃ dk dn, d = .agg [.lit (.string s.name.data.toList), .lit (.int .i64 s.kind), .lit (.int .i64 s.part), dk, dn] ∧ KDat dk s.keys ∧ IDat dn s.needs
theorem open_step {cs : List Value} {x : DataW H × List MemPlace} (h : DataW.trod enc Tryd.prog w 0 (fun _ => true) true n 42 cs = some x) :
    ∃ (s : StepD) (kv nv : Value), cs = [.string s.name, .int .i64 s.kind, .int .i64 s.part, kv, nv] ∧ KRow0 w kv s.keys ∧ IRow0 w nv s.needs ∧ StDat x.1 s := by
  obtain ⟨xs, m, rfl, hx, hl, hxl, hf⟩ := DataW.trod_struct Tryd.underlying42 h
  have hl5 : cs.length = 5 := by rw [hl]; kernel_rfl
  have hx5 : xs.length = 5 := by rw [hxl]; rfl
  have ci : Tryd.prog.cellsOf 3 = 1 := by kernel_rfl
  have cs1 : Tryd.prog.cellsOf 9 = 1 := by kernel_rfl
  have ck : Tryd.prog.cellsOf 40 = 1 := by kernel_rfl
  have cn : Tryd.prog.cellsOf 26 = 1 := by kernel_rfl
  obtain ⟨c0, c1, c2, c3, c4, rfl⟩ : ∃ c0 c1 c2 c3 c4, cs = [c0, c1, c2, c3, c4] := by
    match cs, hl5 with
    | [c0, c1, c2, c3, c4], _ => exact ⟨c0, c1, c2, c3, c4, rfl⟩
  obtain ⟨x0, x1, x2, x3, x4, rfl⟩ : ∃ x0 x1 x2 x3 x4, xs = [x0, x1, x2, x3, x4] := by
    match xs, hx5 with
    | [x0, x1, x2, x3, x4], _ => exact ⟨x0, x1, x2, x3, x4, rfl⟩
  have f0 : DataW.trod enc Tryd.prog w 0 (fun _ => true) true m 9 (([c0, c1, c2, c3, c4].drop 0).take (Tryd.prog.cellsOf 9)) = some x0 := hf 0 _ rfl
  have f1 : DataW.trod enc Tryd.prog w 0 (fun _ => true) true m 3 (([c0, c1, c2, c3, c4].drop 1).take (Tryd.prog.cellsOf 3)) = some x1 := hf 1 _ rfl
  have f2 : DataW.trod enc Tryd.prog w 0 (fun _ => true) true m 3 (([c0, c1, c2, c3, c4].drop 2).take (Tryd.prog.cellsOf 3)) = some x2 := hf 2 _ rfl
  have f3 : DataW.trod enc Tryd.prog w 0 (fun _ => true) true m 40 (([c0, c1, c2, c3, c4].drop 3).take (Tryd.prog.cellsOf 40)) = some x3 := hf 3 _ rfl
  have f4 : DataW.trod enc Tryd.prog w 0 (fun _ => true) true m 26 (([c0, c1, c2, c3, c4].drop 4).take (Tryd.prog.cellsOf 26)) = some x4 := hf 4 _ rfl
  rw [cs1] at f0
  rw [ci] at f1 f2
  rw [ck] at f3
  rw [cn] at f4
  obtain ⟨n0, e0, rfl, b0⟩ := DataW.trod_string Tryd.underlying9 f0
  obtain ⟨n1, e1, rfl, b1⟩ := DataW.trod_int Tryd.underlying3 f1
  obtain ⟨n2, e2, rfl, b2⟩ := DataW.trod_int Tryd.underlying3 f2
  obtain ⟨kv, kl, e3, hk, dk⟩ := open_keys f3
  obtain ⟨nv, nl, e4, hn, dn⟩ := open_needs f4
  obtain rfl : c0 = .string n0 := by simpa using e0
  obtain rfl : c1 = .int .i64 n1 := by simpa using e1
  obtain rfl : c2 = .int .i64 n2 := by simpa using e2
  obtain rfl : c3 = kv := by simpa using e3
  obtain rfl : c4 = nv := by simpa using e4
  exact ⟨⟨n0, n1, n2, kl, nl⟩, c3, c4, rfl, hk, hn, x3.1, x4.1, by rw [hx]; rfl, dk, dn⟩
theorem cells_at {b off k base : Nat} {cs : List Value} (h : w.cells? base ⟨b, off, none⟩ k = some cs) (j : Nat) (hj : j < k) : w.cell? ⟨b, off + j, none⟩ = cs[j]? := by
  obtain ⟨_, hl, hc⟩ := World.cells?_some h
  have := hc j hj
  rwa [add_plain] at this
/-- The steps' row, and its data. -/
def DRow0 (w : World) (v : Value) (ss : List StepD) : Prop := ∃ ao cap, v = .slice ao ss.length cap ∧ ss.length ≤ cap ∧ (ao = none → cap = 0) ∧
  ∀ j, j < ss.length → ∃ g o, ao = some ⟨g, o, none⟩ ∧ g < w.heap.size ∧ w.cell? ⟨g, o + j * 5, none⟩ = some (.string (nth ss j).name) ∧ w.cell? ⟨g, o + j * 5 + 1, none⟩ = some (.int .i64 (nth ss j).kind) ∧ w.cell? ⟨g, o + j * 5 + 2, none⟩ = some (.int .i64 (nth ss j).part) ∧
    ∃ kv nv, w.cell? ⟨g, o + j * 5 + 3, none⟩ = some kv ∧ w.cell? ⟨g, o + j * 5 + 4, none⟩ = some nv ∧ KRow0 w kv (nth ss j).keys ∧ IRow0 w nv (nth ss j).needs
def SDat (d : DataW H) (ss : List StepD) : Prop := (d = .nil ∧ ss = []) ∨ ∃ ds sp, d = .slice ds sp ∧ ds.length = ss.length ∧ ∀ j, j < ss.length → ∃ e, ds[j]? = some e ∧ StDat e (nth ss j)
theorem open_steps {cs : List Value} {x : DataW H × List MemPlace} (h : DataW.trod enc Tryd.prog w 0 (fun _ => true) true n 22 cs = some x) : ∃ sv ss, cs = [sv] ∧ DRow0 w sv ss ∧ SDat x.1 ss := by
  have ck : Tryd.prog.cellsOf 42 = 5 := by kernel_rfl
  rcases Go.Deep.open_slice Tryd.underlying22 h with ⟨hcs, hx⟩ | ⟨a, len, cap, m, n', D, Pl, hcs, _, hl, hm, hmm, hx, hcell⟩
  · exact ⟨_, [], hcs, ⟨none, 0, rfl, Nat.le_refl _, fun _ => rfl, fun j hj => by simp at hj⟩, Or.inl ⟨by rw [hx], rfl⟩⟩
  · simp only [if_true] at hmm
    subst hmm
    rw [ck] at hcell
    have each : ∀ i, i < m → ∃ q : StepD × Value × Value, w.cells? 0 (a.add (i * 5)) 5 = some [.string q.1.name, .int .i64 q.1.kind, .int .i64 q.1.part, q.2.1, q.2.2] ∧ KRow0 w q.2.1 q.1.keys ∧ IRow0 w q.2.2 q.1.needs ∧ StDat (D i) q.1 := fun i hi => by
      obtain ⟨cs', h1, h2⟩ := hcell i hi
      obtain ⟨s, kv, nv, rfl, h3, h4, h5⟩ := open_step h2
      exact ⟨⟨s, kv, nv⟩, h1, h3, h4, h5⟩
    obtain ⟨V, hV⟩ := Go.Deep.choose_lt each
    refine ⟨_, (List.range len).map fun i => (V i).1, hcs, ⟨some a, m, by simp, by simpa using hl, fun h => (by cases h), fun j hj => ?_⟩, Or.inr ⟨(List.range len).map D, (List.range (m - len)).map fun j => D (len + j), by rw [hx], by simp, fun j hj => ?_⟩⟩
    · simp at hj
      obtain ⟨b, off, spot⟩ := a
      have hspot : spot = none := by
        obtain ⟨_, _, hcc⟩ := World.cells?_some (hV 0 (by omega)).1
        have := hcc 0 (by decide)
        simpa [Addr.add] using World.cell?_spot this
      subst hspot
      obtain ⟨hc, hk, hn, _⟩ := hV j (by omega)
      rw [add_plain] at hc
      have k0 := cells_at hc 0 (by decide)
      rw [nth_map _ _ _ hj]
      exact ⟨b, off, rfl, block_lt_of_cell k0, by simpa using k0, by simpa using cells_at hc 1 (by decide), by simpa using cells_at hc 2 (by decide), _, _, by simpa using cells_at hc 3 (by decide), by simpa using cells_at hc 4 (by decide), hk, hn⟩
    · simp at hj
      rw [nth_map _ _ _ hj]
      exact ⟨D j, by simp [hj], (hV j (by omega)).2.2.2⟩
theorem open_def {v : Value} {d : DataW H} {p : List MemPlace} (h : DataW.Trod enc Tryd.prog w 0 (fun _ => true) true 24 v d p) : ∃ (D : DefD) (sv : Value), v.cells.toList = [.string D.name, sv] ∧ DRow0 w sv D.steps ∧ ∃ sd, d = .agg [.lit (.string D.name.data.toList), sd] ∧ SDat sd D.steps := by
  obtain ⟨n, h⟩ := h
  obtain ⟨xs, m, rfl, hx, hl, hxl, hf⟩ := DataW.trod_struct Tryd.underlying24 h
  have hl5 : v.cells.toList.length = 2 := by rw [hl]; kernel_rfl
  have hx5 : xs.length = 2 := by rw [hxl]; rfl
  have cs1 : Tryd.prog.cellsOf 9 = 1 := by kernel_rfl
  have ck : Tryd.prog.cellsOf 22 = 1 := by kernel_rfl
  generalize v.cells.toList = cs at *
  obtain ⟨c0, c1, rfl⟩ : ∃ c0 c1, cs = [c0, c1] := by
    match cs, hl5 with
    | [c0, c1], _ => exact ⟨c0, c1, rfl⟩
  obtain ⟨x0, x1, rfl⟩ : ∃ x0 x1, xs = [x0, x1] := by
    match xs, hx5 with
    | [x0, x1], _ => exact ⟨x0, x1, rfl⟩
  have f0 : DataW.trod enc Tryd.prog w 0 (fun _ => true) true m 9 (([c0, c1].drop 0).take (Tryd.prog.cellsOf 9)) = some x0 := hf 0 _ rfl
  have f1 : DataW.trod enc Tryd.prog w 0 (fun _ => true) true m 22 (([c0, c1].drop 1).take (Tryd.prog.cellsOf 22)) = some x1 := hf 1 _ rfl
  rw [cs1] at f0
  rw [ck] at f1
  obtain ⟨n0, e0, rfl, b0⟩ := DataW.trod_string Tryd.underlying9 f0
  obtain ⟨sv, ss, e1, hs, ds⟩ := open_steps f1
  obtain rfl : c0 = .string n0 := by simpa using e0
  obtain rfl : c1 = sv := by simpa using e1
  refine ⟨⟨n0, ss⟩, c1, rfl, hs, x1.1, ?_, ds⟩
  simp only [Prod.mk.injEq] at hx
  rw [hx.1]
  rfl

theorem weightsAll_mem {P : Program} {e : TypeId} {n : Nat} : ∀ {ds : List (DataW H)} {d : DataW H}, d ∈ ds → n ∈ d.weights P e → n ∈ DataW.weightsAll P e ds
  | x :: ds, d, h, hn => by
    simp only [DataW.weightsAll, List.mem_append]
    rcases List.mem_cons.1 h with rfl | h
    · exact Or.inl hn
    · exact Or.inr (weightsAll_mem h hn)
theorem keys_sized {v : Value} {l : List ByteArray} {d : DataW H} (hs : ∀ n ∈ d.weights Tryd.prog 40, n ≤ reachBytes) (hd : KDat d l) (h : KRow0 w v l) : KRow w v l := by
  obtain ⟨ao, cap, h1, h2, h3, h4⟩ := h
  have hr : reachBytes = 140737488351232 := rfl
  refine ⟨ao, cap, h1, h2, h3, ?_, h4⟩
  rcases hd with ⟨_, rfl⟩ | ⟨sp, rfl⟩
  · exact ⟨by simp, fun x hx => by cases hx⟩
  · simp only [DataW.weights, Tryd.underlying40, List.mem_cons, List.mem_append] at hs
    refine ⟨?_, fun x hx => ?_⟩
    · have := hs _ (Or.inl rfl)
      rw [show Tryd.prog.bytesOf 9 = 16 by kernel_rfl, List.length_map] at this
      omega
    · have := hs x.data.toList.length (Or.inr (Or.inl (weightsAll_mem (List.mem_map.2 ⟨x, hx, rfl⟩) (by simp [DataW.weights]))))
      have e : x.data.toList.length = x.size := Array.length_toList
      omega
theorem needs_sized {v : Value} {l : List Int} {d : DataW H} (hs : ∀ n ∈ d.weights Tryd.prog 26, n ≤ reachBytes) (hd : IDat d l) (h : IRow0 w v l) : IRow w v l := by
  obtain ⟨ao, cap, h1, h2, h3, h4⟩ := h
  have hr : reachBytes = 140737488351232 := rfl
  refine ⟨ao, cap, h1, h2, h3, ?_, h4⟩
  rcases hd with ⟨_, rfl⟩ | ⟨sp, rfl⟩
  · simp
  · simp only [DataW.weights, Tryd.underlying26, List.mem_cons, List.mem_append] at hs
    have := hs _ (Or.inl rfl)
    rw [show Tryd.prog.bytesOf 3 = 8 by kernel_rfl, List.length_map] at this
    omega
theorem steps_sized {v : Value} {ss : List StepD} {d : DataW H} (hs : ∀ n ∈ d.weights Tryd.prog 22, n ≤ reachBytes) (hd : SDat d ss) (h : DRow0 w v ss) : DRow w v ss ∧ ss.length * 80 ≤ 140737488351232 := by
  obtain ⟨ao, cap, h1, h2, h3, h4⟩ := h
  have hr : reachBytes = 140737488351232 := rfl
  rcases hd with ⟨_, rfl⟩ | ⟨ds, sp, rfl, hl, hds⟩
  · exact ⟨⟨ao, cap, h1, h2, h3, by simp, fun j hj => by simp at hj⟩, by simp⟩
  · simp only [DataW.weights, Tryd.underlying22, List.mem_cons, List.mem_append] at hs
    have h80 := hs _ (Or.inl rfl)
    rw [show Tryd.prog.bytesOf 42 = 80 by kernel_rfl, hl] at h80
    refine ⟨⟨ao, cap, h1, h2, h3, by omega, fun j hj => ?_⟩, by omega⟩
    obtain ⟨g, o, k1, k2, c0, c1, c2, kv, nv, c3, c4, c5, c6⟩ := h4 j hj
    obtain ⟨e, he, dk, dn, rfl, hk, hn⟩ := hds j hj
    have hsub : ∀ n, n ∈ (DataW.agg [.lit (.string (nth ss j).name.data.toList), .lit (.int .i64 (nth ss j).kind), .lit (.int .i64 (nth ss j).part), dk, dn] : DataW H).weights Tryd.prog 42 → n ≤ reachBytes := fun n hn => hs n (Or.inr (Or.inl (weightsAll_mem (List.mem_of_getElem? he) hn)))
    simp only [DataW.weights, Tryd.underlying42, DataW.weightsEach, List.map_cons, List.map_nil, List.mem_append] at hsub
    exact ⟨g, o, k1, k2, c0, c1, c2, kv, nv, c3, c4, keys_sized (fun n hn => hsub n (by simp [hn])) hk c5, needs_sized (fun n hn => hsub n (by simp [hn])) hn c6⟩
/-- A definition that came in. -/
theorem def_in {ts : List TypeId} {ds : List (DataW H)} {base : Nat} {v : Value} {d : DataW H} {p : List MemPlace} (hsz : (DataW.weightsEach Tryd.prog ts ds).all (· ≤ reachBytes) = true) {j : Nat} (ht : ts[j]? = some 24) (hd : ds[j]? = some d)
    (hv : Value.okWide Tryd.prog w .any base 24 v) (h : DataW.Trod enc Tryd.prog w 0 (fun _ => true) true 24 v d p) : ∃ D : DefD, DefIn w v D ∧ D.steps.length * 80 ≤ 140737488351232 := by
  obtain ⟨D, sv, hc, hs, sd, rfl, hdat⟩ := open_def h
  obtain ⟨cs, rfl, _⟩ := okWide_struct Tryd.underlying24 hv
  have hall : ∀ n, n ∈ (DataW.agg [.lit (.string D.name.data.toList), sd] : DataW H).weights Tryd.prog 24 → n ≤ reachBytes := fun n hn => by
    have := List.all_eq_true.1 hsz _ (DataW.weights_mem_each ht hd n hn)
    simpa using this
  simp only [DataW.weights, Tryd.underlying24, DataW.weightsEach, List.map_cons, List.map_nil, List.mem_append] at hall
  obtain ⟨hr, h80⟩ := steps_sized (fun n hn => hall n (by simp [hn])) hdat hs
  refine ⟨D, ⟨sv, ?_, hr⟩, h80⟩
  have : cs = #[.string D.name, sv] := by
    have e : (Value.agg cs).cells = cs := rfl
    rw [e] at hc
    exact Array.toList_inj.1 (by simpa using hc)
  rw [this]
end
end Go.Proofs.YtmjnllldjeeigaaDoor

/- What is known of the sizes of a definition that came in. -/
set_option linter.unusedVariables false
namespace Go.Proofs.YtmjnllldjeeigaaDoor
open Go.ChangeShapes Go.WideShapes Go.ChangeAt Go.RowKit CheckMath

section
variable {H : Type} {enc : TypeId × Value → H} {w : World} {n : Nat}
theorem keys_ok {l : List ByteArray} {d : DataW H} (hs : ∀ n ∈ d.weights Tryd.prog 40, n ≤ reachBytes) (hd : KDat d l) : l.length * 16 ≤ 140737488355328 ∧ ∀ x, x ∈ l → x.size ≤ 140737488355328 := by
  have hr : reachBytes = 140737488351232 := rfl
  rcases hd with ⟨_, rfl⟩ | ⟨sp, rfl⟩
  · exact ⟨by simp, fun x hx => by cases hx⟩
  · simp only [DataW.weights, Tryd.underlying40, List.mem_cons, List.mem_append] at hs
    refine ⟨?_, fun x hx => ?_⟩
    · have := hs _ (Or.inl rfl)
      rw [show Tryd.prog.bytesOf 9 = 16 by kernel_rfl, List.length_map] at this
      omega
    · have := hs x.data.toList.length (Or.inr (Or.inl (weightsAll_mem (List.mem_map.2 ⟨x, hx, rfl⟩) (by simp [DataW.weights]))))
      have e : x.data.toList.length = x.size := Array.length_toList
      omega
theorem needs_ok {l : List Int} {d : DataW H} (hs : ∀ n ∈ d.weights Tryd.prog 26, n ≤ reachBytes) (hd : IDat d l) : l.length * 8 ≤ 140737488355328 := by
  have hr : reachBytes = 140737488351232 := rfl
  rcases hd with ⟨_, rfl⟩ | ⟨sp, rfl⟩
  · simp
  · simp only [DataW.weights, Tryd.underlying26, List.mem_cons, List.mem_append] at hs
    have := hs _ (Or.inl rfl)
    rw [show Tryd.prog.bytesOf 3 = 8 by kernel_rfl, List.length_map] at this
    omega
theorem steps_ok {ss : List StepD} {d : DataW H} (hs : ∀ n ∈ d.weights Tryd.prog 22, n ≤ reachBytes) (hd : SDat d ss) : ∀ s, s ∈ ss → StOk s := by
  rcases hd with ⟨_, rfl⟩ | ⟨ds, sp, rfl, hl, hds⟩
  · exact fun s hs => by cases hs
  · simp only [DataW.weights, Tryd.underlying22, List.mem_cons, List.mem_append] at hs
    intro s hm
    obtain ⟨j, hj, rfl⟩ := List.mem_iff_getElem.1 hm
    obtain ⟨e, he, dk, dn, rfl, hk, hn⟩ := hds j hj
    rw [nth_eq hj] at hk hn he
    have hsub : ∀ n, n ∈ (DataW.agg [.lit (.string ss[j].name.data.toList), .lit (.int .i64 ss[j].kind), .lit (.int .i64 ss[j].part), dk, dn] : DataW H).weights Tryd.prog 42 → n ≤ reachBytes := fun n hn => hs n (Or.inr (Or.inl (weightsAll_mem (List.mem_of_getElem? he) hn)))
    simp only [DataW.weights, Tryd.underlying42, DataW.weightsEach, List.map_cons, List.map_nil, List.mem_append] at hsub
    obtain ⟨k1, k2⟩ := keys_ok (fun n hn => hsub n (by simp [hn])) hk
    exact ⟨k1, k2, needs_ok (fun n hn => hsub n (by simp [hn])) hn⟩
/-- A definition that came in, and its sizes. -/
theorem def_ok {ts : List TypeId} {ds : List (DataW H)} {base : Nat} {v : Value} {d : DataW H} {p : List MemPlace} (hsz : (DataW.weightsEach Tryd.prog ts ds).all (· ≤ reachBytes) = true) {j : Nat} (ht : ts[j]? = some 24) (hd : ds[j]? = some d)
    (hv : Value.okWide Tryd.prog w .any base 24 v) (h : DataW.Trod enc Tryd.prog w 0 (fun _ => true) true 24 v d p) : ∃ D : DefD, DefIn w v D ∧ D.steps.length * 80 ≤ 140737488355328 ∧ ∀ s, s ∈ D.steps → StOk s := by
  obtain ⟨D, sv, hc, hs, sd, rfl, hdat⟩ := open_def h
  obtain ⟨cs, rfl, _⟩ := okWide_struct Tryd.underlying24 hv
  have hall : ∀ n, n ∈ (DataW.agg [.lit (.string D.name.data.toList), sd] : DataW H).weights Tryd.prog 24 → n ≤ reachBytes := fun n hn => by
    have := List.all_eq_true.1 hsz _ (DataW.weights_mem_each ht hd n hn)
    simpa using this
  simp only [DataW.weights, Tryd.underlying24, DataW.weightsEach, List.map_cons, List.map_nil, List.mem_append] at hall
  obtain ⟨hr, h80⟩ := steps_sized (fun n hn => hall n (by simp [hn])) hdat hs
  refine ⟨D, ⟨sv, ?_, hr⟩, by omega, steps_ok (fun n hn => hall n (by simp [hn])) hdat⟩
  have : cs = #[.string D.name, sv] := by
    have e : (Value.agg cs).cells = cs := rfl
    rw [e] at hc
    exact Array.toList_inj.1 (by simpa using hc)
  rw [this]
end
end Go.Proofs.YtmjnllldjeeigaaDoor

/- All that is known of a definition that came in. -/
set_option linter.unusedVariables false
namespace Go.Proofs.YtmjnllldjeeigaaDoor
open Go.ChangeShapes Go.WideShapes Go.ChangeAt Go.RowKit CheckMath

section
variable {H : Type} {enc : TypeId × Value → H} {w : World} {n : Nat}
theorem keys_sz {l : List ByteArray} {d : DataW H} (hs : ∀ n ∈ d.weights Tryd.prog 40, n ≤ reachBytes) (hd : KDat d l) : ∀ x, x ∈ l → x.size ≤ 140737488351232 := by
  have hr : reachBytes = 140737488351232 := rfl
  rcases hd with ⟨_, rfl⟩ | ⟨sp, rfl⟩
  · exact fun x hx => by cases hx
  · simp only [DataW.weights, Tryd.underlying40, List.mem_cons, List.mem_append] at hs
    intro x hx
    have := hs x.data.toList.length (Or.inr (Or.inl (weightsAll_mem (List.mem_map.2 ⟨x, hx, rfl⟩) (by simp [DataW.weights]))))
    have e : x.data.toList.length = x.size := Array.length_toList
    omega
theorem steps_sz {ss : List StepD} {d : DataW H} (hs : ∀ n ∈ d.weights Tryd.prog 22, n ≤ reachBytes) (hd : SDat d ss) : ∀ s, s ∈ ss → s.name.size ≤ 140737488351232 ∧ ∀ k, k ∈ s.keys → k.size ≤ 140737488351232 := by
  have hr : reachBytes = 140737488351232 := rfl
  rcases hd with ⟨_, rfl⟩ | ⟨ds, sp, rfl, hl, hds⟩
  · exact fun s hs => by cases hs
  · simp only [DataW.weights, Tryd.underlying22, List.mem_cons, List.mem_append] at hs
    intro s hm
    obtain ⟨j, hj, rfl⟩ := List.mem_iff_getElem.1 hm
    obtain ⟨e, he, dk, dn, rfl, hk, hn⟩ := hds j hj
    rw [nth_eq hj] at hk hn he
    have hsub : ∀ n, n ∈ (DataW.agg [.lit (.string ss[j].name.data.toList), .lit (.int .i64 ss[j].kind), .lit (.int .i64 ss[j].part), dk, dn] : DataW H).weights Tryd.prog 42 → n ≤ reachBytes := fun n hn => hs n (Or.inr (Or.inl (weightsAll_mem (List.mem_of_getElem? he) hn)))
    simp only [DataW.weights, Tryd.underlying42, DataW.weightsEach, List.map_cons, List.map_nil, List.mem_append] at hsub
    refine ⟨?_, keys_sz (fun n hn => hsub n (by simp [hn])) hk⟩
    have := hsub ss[j].name.data.toList.length (by simp)
    have e : ss[j].name.data.toList.length = ss[j].name.size := Array.length_toList
    omega
theorem def_all {ts : List TypeId} {ds : List (DataW H)} {base : Nat} {v : Value} {d : DataW H} {p : List MemPlace} (hsz : (DataW.weightsEach Tryd.prog ts ds).all (· ≤ reachBytes) = true) {j : Nat} (ht : ts[j]? = some 24) (hd : ds[j]? = some d)
    (hv : Value.okWide Tryd.prog w .any base 24 v) (h : DataW.Trod enc Tryd.prog w 0 (fun _ => true) true 24 v d p) : ∃ D : DefD, DefIn w v D ∧ D.steps.length * 80 ≤ 140737488355328 ∧ (∀ s, s ∈ D.steps → StOk s) ∧ SzD D := by
  obtain ⟨D, sv, hc, hs, sd, rfl, hdat⟩ := open_def h
  obtain ⟨cs, rfl, _⟩ := okWide_struct Tryd.underlying24 hv
  have hall : ∀ n, n ∈ (DataW.agg [.lit (.string D.name.data.toList), sd] : DataW H).weights Tryd.prog 24 → n ≤ reachBytes := fun n hn => by
    have := List.all_eq_true.1 hsz _ (DataW.weights_mem_each ht hd n hn)
    simpa using this
  simp only [DataW.weights, Tryd.underlying24, DataW.weightsEach, List.map_cons, List.map_nil, List.mem_append] at hall
  obtain ⟨hr, h80⟩ := steps_sized (fun n hn => hall n (by simp [hn])) hdat hs
  have hrr : reachBytes = 140737488351232 := rfl
  have hnm := hall D.name.data.toList.length (by simp)
  have e : D.name.data.toList.length = D.name.size := Array.length_toList
  refine ⟨D, ⟨sv, ?_, hr⟩, by omega, steps_ok (fun n hn => hall n (by simp [hn])) hdat, by omega, steps_sz (fun n hn => hall n (by simp [hn])) hdat⟩
  have : cs = #[.string D.name, sv] := by
    have e : (Value.agg cs).cells = cs := rfl
    rw [e] at hc
    exact Array.toList_inj.1 (by simpa using hc)
  rw [this]
end
end Go.Proofs.YtmjnllldjeeigaaDoor

/- The walk of the document's Behind. -/
set_option linter.unusedVariables false
set_option maxRecDepth 100000
namespace Go.Proofs.YtmjnllldjeeigaaDoor
open Go.RowKit CheckMath
open Go.Proofs.YtmjnllldjeeigaaDoor.Nm

theorem behindL_no {D : DefD} {i : Int} (h : ¬ InD D i) : behindL D i = [] := by unfold behindL; rw [if_neg (by rw [tt_no h]; simp)]
theorem bl_setb (l : Nat → Bool) (i : Nat) (hi : i < 8) (v : Bool) : (bl l).set i (.bool v) = bl (updB l i v) := by
  have : i = 0 ∨ i = 1 ∨ i = 2 ∨ i = 3 ∨ i = 4 ∨ i = 5 ∨ i = 6 ∨ i = 7 := by omega
  rcases this with rfl | rfl | rfl | rfl | rfl | rfl | rfl | rfl <;> rfl
theorem idx_bl (l : Nat → Bool) (m : Nat) (hm : m < 8) (wq : World) : (Instr.index 56 (.agg (bl l).toArray) (.int .i64 (m : Int))).run Tryd.prog wq = .ok (.bool (l m)) wq := by
  match m, hm with
  | 0, _ => rfl
  | 1, _ => rfl
  | 2, _ => rfl
  | 3, _ => rfl
  | 4, _ => rfl
  | 5, _ => rfl
  | 6, _ => rfl
  | 7, _ => rfl
theorem nl_congr {l k : Nat → Bool} {n : Nat} (h : ∀ y, y < n → l y = k y) : nl l n = nl k n := by
  unfold nl
  exact List.filter_congr fun y hy => h y (List.mem_range.1 hy)
set_option maxHeartbeats 4000000 in
theorem refBehindTop_any (v : Value) (D : DefD) (hz : SzD D) (i : Int) (w : World) (h : DefIn w v D) :
    Calls Tryd.prog 13 #[v, .int .i64 i] w fun e w' => RowOf w (behindL D i) e w' := by
  have HDI : Hid (DefIn w v D) := h
  obtain ⟨sv, rfl, hd⟩ := h
  obtain ⟨ao, cap, rfl, hcap, _, hlen, _⟩ := hd
  have hb0 : Below w.heap.size w (w.alloc (.cells #[.string D.name, .slice ao D.steps.length cap] 24)) := (Below.refl _ _).alloc (Nat.le_refl _) _
  have HW : Hid (∀ wq, Below (w.alloc (.cells #[.string D.name, .slice ao D.steps.length cap] 24)).heap.size (w.alloc (.cells #[.string D.name, .slice ao D.steps.length cap] 24)) wq → Below w.heap.size w wq ∧ wq.cell? ⟨w.heap.size, 0, none⟩ = some (.string D.name) ∧ wq.cell? ⟨w.heap.size, 1, none⟩ = some (.slice ao D.steps.length cap)) := fun wq hb => box_def wq hb
  have CM : Hid (Calls Tryd.prog 28 #[.agg #[.string D.name, .slice ao D.steps.length cap]] (w.alloc (.cells #[.string D.name, .slice ao D.steps.length cap] 24)) fun e w' => e = .returned (.bool (tt (Fine D))) ∧ Below (w.alloc (.cells #[.string D.name, .slice ao D.steps.length cap] 24)).heap.size (w.alloc (.cells #[.string D.name, .slice ao D.steps.length cap] 24)) w') := refMay_any _ D hz _ (HDI.out.below hb0)
  have HNO : Hid (¬ InD D i → behindL D i = []) := behindL_no
  clear hb0 hz
  by_cases hf : Fine D
  case neg =>
    rw [tt_no hf] at CM
    have HL : Hid (behindL D i = []) := HNO.out (fun h => hf h.1)
    clear HNO hf
    go_enter Tryd.func13, Tryd.ntmps13
    go_wp2_with fail
    refine CM.out.mono ?_
    rintro e w1 ⟨rfl, hb1⟩
    obtain ⟨k1, p0, p1⟩ := HW.out _ hb1
    go_wp2_with fail
    go_ret
    rw [HL.out]
    exact rowOf_nil _ _ k1
  rw [tt_yes hf] at CM
  by_cases h0 : i < 0
  · have HL : Hid (behindL D i = []) := HNO.out (fun h => by have := h.2.1; omega)
    clear HNO hf
    go_enter Tryd.func13, Tryd.ntmps13
    go_wp2_with fail
    refine CM.out.mono ?_
    rintro e w1 ⟨rfl, hb1⟩
    obtain ⟨k1, p0, p1⟩ := HW.out _ hb1
    go_wp2_with fail
    go_ret
    rw [HL.out]
    exact rowOf_nil _ _ k1
  by_cases h1 : (D.steps.length : Int) ≤ i
  · have HL : Hid (behindL D i = []) := HNO.out (fun h => by have := h.2.2; omega)
    clear HNO hf
    go_enter Tryd.func13, Tryd.ntmps13
    go_wp2_with fail
    refine CM.out.mono ?_
    rintro e w1 ⟨rfl, hb1⟩
    obtain ⟨k1, p0, p1⟩ := HW.out _ hb1
    go_wp2_with fail
    go_ret
    rw [HL.out]
    exact rowOf_nil _ _ k1
  obtain ⟨m, rfl⟩ : ∃ m : Nat, i = (m : Int) := ⟨i.toNat, by omega⟩
  have hm : m < D.steps.length := by omega
  have HL : Hid (∀ l : Nat → Bool, (∀ y, y < D.steps.length → (l y = true ↔ AheadP D.steps y m)) → behindL D (m : Int) = nl l D.steps.length) := fun l hl => by
    unfold behindL
    rw [if_pos (tt_yes ⟨hf, by omega, by omega⟩)]
    refine nl_congr fun y hy => ?_
    rw [Int.toNat_natCast]
    cases e : l y with
    | true => exact tt_yes ((hl y hy).1 e)
    | false => exact tt_no (fun h => by rw [(hl y hy).2 h] at e; cases e)
  have h8 : D.steps.length ≤ 8 := hf.few
  have CA : Hid (∀ b, b < D.steps.length → ∀ wq, Below w.heap.size w wq → Calls Tryd.prog 30 #[.agg #[.string D.name, .slice ao D.steps.length cap], .int .i64 (b : Int)] wq fun e w' => ∃ l : Nat → Bool, e = .returned (.agg (bl l).toArray) ∧ (∀ y, l y = true ↔ AheadP D.steps b y) ∧ Below wq.heap.size wq w') := fun b hb wq hq => refAhead_any _ D h8 b hb wq (HDI.out.below hq)
  have CN : Hid (∀ l wq, Below w.heap.size w wq → Calls Tryd.prog 29 #[.agg #[.string D.name, .slice ao D.steps.length cap], .agg (bl l).toArray] wq fun e w' => ∃ v', e = .returned v' ∧ w'.ownsRow wq.heap.size 3 1 v' (nl l D.steps.length).length ((nl l D.steps.length).map nV) ∧ Below wq.heap.size wq w') := fun l wq hq => refNumbers_any _ D h8 l wq (HDI.out.below hq)
  have hmI : (m : Int) < (D.steps.length : Int) := by omega
  have hm8 : m < 8 := by omega
  have hm0 : ¬ (m : Int) < 0 := by omega
  have hm1 : ¬ D.steps.length ≤ m := by omega
  have hm1b : decide (D.steps.length ≤ m) = false := decide_eq_false hm1
  have hm0b : decide ((m : Int) < 0) = false := decide_eq_false hm0
  have HH8 : Hid (D.steps.length ≤ 8) := h8
  clear HNO hf HDI h8 hm
  go_enter Tryd.func13, Tryd.ntmps13
  go_wp2_with fail
  refine CM.out.mono ?_
  rintro e w1 ⟨rfl, hb1⟩
  obtain ⟨k1, p0, p1⟩ := HW.out _ hb1
  have HS1 : Hid (Has w.heap.size w [BlockR w1.heap.size (bl fun _ => false), BlockR w.heap.size [.string D.name, .slice ao D.steps.length cap]] (w1.alloc (.cells #[.bool false, .bool false, .bool false, .bool false, .bool false, .bool false, .bool false, .bool false] 56))) := by
    have h1 := ((Has.start w).box [.string D.name, .slice ao D.steps.length cap] 24).below hb1
    exact h1.box (bl fun _ => false) 56
  clear hb1 k1 HW CM
  go_wp2_with fail
  clear p0 p1
  generalize (w1.alloc (.cells #[.bool false, .bool false, .bool false, .bool false, .bool false, .bool false, .bool false, .bool false] 56)) = w0 at *
  go_loopw [6] (fun k wr => ∃ (b : Nat) (l : Nat → Bool), b ≤ D.steps.length ∧ k = .int .i64 (b : Int) ∧ Hid (Has w.heap.size w [BlockR w1.heap.size (bl l), BlockR w.heap.size [.string D.name, .slice ao D.steps.length cap]] wr) ∧ Hid (∀ y, y < b → (l y = true ↔ AheadP D.steps y m))) (fun k _ => D.steps.length - (intOf k).toNat)
  case atStart => exact ⟨0, _, Nat.zero_le _, rfl, HS1, fun y hy => absurd hy (Nat.not_lt_zero _)⟩
  case round =>
    obtain ⟨b, l, hb, rfl, H1, HL1⟩ := hrel
    obtain ⟨p0, _⟩ := H1.out.cell (q := w.heap.size) (vs := [.string D.name, .slice ao D.steps.length cap]) (by simp) 0 _ rfl
    obtain ⟨p1, _⟩ := H1.out.cell (q := w.heap.size) (vs := [.string D.name, .slice ao D.steps.length cap]) (by simp) 1 _ rfl
    by_cases hlt : b < D.steps.length
    · have hltI : (b : Int) < (D.steps.length : Int) := by omega
      have hb8 : (b : Int) < 8 := by have := HH8.out; omega
      have C : Hid (Calls Tryd.prog 30 #[.agg #[.string D.name, .slice ao D.steps.length cap], .int .i64 (b : Int)] wr fun e w' => ∃ l : Nat → Bool, e = .returned (.agg (bl l).toArray) ∧ (∀ y, l y = true ↔ AheadP D.steps b y) ∧ Below wr.heap.size wr w') := CA.out b hlt wr H1.out.bel
      clear HS1 CA CN HL
      go_wp2_with fail
      refine C.out.mono ?_
      rintro e w2 ⟨l2, rfl, hl2, hb2⟩
      have HSET : Hid (Has w.heap.size w [BlockR w1.heap.size (bl (updB l b (l2 m))), BlockR w.heap.size [.string D.name, .slice ao D.steps.length cap]] (w2.setCell ⟨w1.heap.size, b, none⟩ (.bool (l2 m)))) := by
        have h4 := (H1.out.below hb2).put b (by show b < 8; omega) (.bool (l2 m))
        rw [bl_setb l b (by omega)] at h4
        exact h4
      obtain ⟨q1, q2⟩ := (H1.out.below hb2).cell List.mem_cons_self b _ (bl_at l b (by omega))
      have HL2 : Hid (∀ y, y < b + 1 → (updB l b (l2 m) y = true ↔ AheadP D.steps y m)) := fun y hy => by
        unfold updB
        by_cases e : y = b
        · subst e; simp; exact hl2 m
        · simp [e]; exact HL1.out y (by omega)
      have k1 := fun wq => idx_bl l2 m hm8 wq
      generalize l2 m = r2 at *
      clear C hl2 HL1 H1 hb2 p0 p1
      go_wp2_with fail
      exact ⟨⟨b + 1, _, by omega, by go_num, HSET, HL2⟩, by simp [intOf]; omega⟩
    · obtain rfl : b = D.steps.length := by omega
      have C : Hid (∀ wq, Below w.heap.size w wq → Calls Tryd.prog 29 #[.agg #[.string D.name, .slice ao D.steps.length cap], .agg (bl l).toArray] wq fun e w' => ∃ v', e = .returned v' ∧ w'.ownsRow wq.heap.size 3 1 v' (nl l D.steps.length).length ((nl l D.steps.length).map nV) ∧ Below wq.heap.size wq w') := CN.out l
      have HLL : Hid (behindL D (m : Int) = nl l D.steps.length) := HL.out l HL1.out
      have q := fun (j : Nat) (hj : j < 8) => (H1.out.cell List.mem_cons_self j _ (bl_at l j hj)).1
      have q0 := q 0 (by omega)
      have q1 := q 1 (by omega)
      have q2 := q 2 (by omega)
      have q3 := q 3 (by omega)
      have q4 := q 4 (by omega)
      have q5 := q 5 (by omega)
      have q6 := q 6 (by omega)
      have q7 := q 7 (by omega)
      have HBW : Hid (Below w.heap.size w wr) := H1.out.bel
      clear q HS1 CA CN HL HL1 H1
      go_wp2_with fail
      refine (C.out _ HBW.out).mono ?_
      rintro e w2 ⟨v', rfl, hown, hb2⟩
      have HFIN : Hid (w2.ownsRow w.heap.size 3 1 v' (nl l D.steps.length).length ((nl l D.steps.length).map nV) ∧ Below w.heap.size w w2) := ⟨own_base hown HBW.out.size, HBW.out.trans (hb2.mono HBW.out.size)⟩
      clear hown hb2 C
      go_wp2_with fail
      go_ret
      rw [HLL.out]
      exact ⟨v', rfl, HFIN.out⟩
end Go.Proofs.YtmjnllldjeeigaaDoor

/- The walks of pick, and of the document's stands and fit. -/
set_option linter.unusedVariables false
set_option maxRecDepth 100000
namespace Go.Proofs.YtmjnllldjeeigaaDoor
open Go.RowKit CheckMath
open Go.Proofs.YtmjnllldjeeigaaDoor.Nm

theorem mod_pick (q n : Nat) (hn : 0 < n) : ((q : Int) % (n : Int)) = ((q % n : Nat) : Int) := by omega
set_option maxHeartbeats 1000000 in
theorem pick_any (c : Int) (h0 : -9223372036854775808 ≤ c) (h1 : c < 9223372036854775808) (n : Nat) (hn : 0 < n) (hn2 : n < 1000000) (w : World) :
    Calls Tryd.prog 23 #[.int .i64 c, .int .i64 (n : Int)] w fun e w' => (∃ k : Nat, k < n ∧ e = .returned (.int .i64 (k : Int))) ∧ w' = w := by
  have hnz : ¬ n = 0 := by omega
  by_cases hc : c < 0
  · obtain ⟨q, hq⟩ : ∃ q : Nat, -(c + 1) = (q : Int) := ⟨(-(c + 1)).toNat, by omega⟩
    have hq2 : q < 9223372036854775808 := by omega
    obtain rfl : c = -(q : Int) - 1 := by omega
    have hm := mod_pick q n hn
    have hk : Hid (q % n < n) := Nat.mod_lt _ hn
    have e1 : IntKind.i64.wrap (-(q : Int) - 1 + 1) = -(q : Int) := by rw [IntKind.wrap_i64] <;> omega
    have e2 : IntKind.i64.wrap (- -(q : Int)) = (q : Int) := by rw [IntKind.wrap_i64] <;> omega
    have hml : ((q % n : Nat) : Int) < 9223372036854775808 := by have := hk.out; omega
    generalize q % n = k at *
    clear h0 h1
    go_enter Tryd.func23, Tryd.ntmps23
    go_wp2_with fail
    go_ret
    exact ⟨⟨k, hk.out, (by show Ending.returned (.int .i64 ((q : Int) % (n : Int))) = _; rw [hm])⟩, rfl⟩
  · obtain ⟨q, rfl⟩ : ∃ q : Nat, c = (q : Int) := ⟨c.toNat, by omega⟩
    have hm := mod_pick q n hn
    have hk : Hid (q % n < n) := Nat.mod_lt _ hn
    have hml : ((q % n : Nat) : Int) < 9223372036854775808 := by have := hk.out; omega
    generalize q % n = k at *
    clear h0 h1
    go_enter Tryd.func23, Tryd.ntmps23
    go_wp2_with fail
    go_ret
    exact ⟨⟨k, hk.out, rfl⟩, rfl⟩

end Go.Proofs.YtmjnllldjeeigaaDoor
