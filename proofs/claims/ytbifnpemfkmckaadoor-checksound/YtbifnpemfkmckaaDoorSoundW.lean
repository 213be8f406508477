/- The walk of CheckSound. -/
import Derived.Test.YtbifnpemfkmckaaDoorSoundM
set_option linter.unusedVariables false
set_option maxRecDepth 100000
namespace Go.Proofs.YtbifnpemfkmckaaDoor
open Go.RowKit CheckMath
open Go.Proofs.YtbifnpemfkmckaaDoor.Nm

set_option maxHeartbeats 20000000 in
theorem checkSound_walk (v : Value) (D : DefD) (w : World) (h : DefIn w v D) (hT : Tabs w) :
    Calls Tryd.prog 5 #[v] w fun e w' => e = .returned (.bool true) ∧ Below w.heap.size w w' := by
  have HT : Hid (Tabs w) := hT
  have HDI : Hid (DefIn w v D) := h
  obtain ⟨sv, rfl, hd⟩ := h
  have HD : Hid (DRow w sv D.steps) := hd
  obtain ⟨ao, cap, rfl, hcap, _, hlen, hrow⟩ := hd
  have HROW : Hid (∀ j, j < D.steps.length → ∃ g o, ao = some ⟨g, o, none⟩ ∧ g < w.heap.size ∧ StepIn w g (o + j * 5) (nth D.steps j)) := hrow
  have HW : Hid (∀ wq, Below (w.alloc (.cells #[.string D.name, .slice ao D.steps.length cap] 24)).heap.size (w.alloc (.cells #[.string D.name, .slice ao D.steps.length cap] 24)) wq →
      Below w.heap.size w wq ∧ wq.cell? ⟨w.heap.size, 1, none⟩ = some (.slice ao D.steps.length cap)) := fun wq hb => by
    have h1 : Below w.heap.size w (w.alloc (.cells #[.string D.name, .slice ao D.steps.length cap] 24)) := (Below.refl _ _).alloc (Nat.le_refl _) _
    refine ⟨h1.trans (hb.mono h1.size), ?_⟩
    rw [hb.cell (p := ⟨w.heap.size, 1, none⟩) (by simp), World.cell?_alloc_new]; rfl
  have C1 : Hid (∀ wq, Below w.heap.size w wq → Calls Tryd.prog 7 #[.agg #[.string D.name, .slice ao D.steps.length cap]] wq fun e w' => e = .returned (.tuple #[.int .i64 (checkM D).1, .int .i64 (checkM D).2]) ∧ Below wq.heap.size wq w') := fun wq hq => check_any _ D wq (HDI.out.below hq) (Utf8Tabs_below HT.out hq)
  have CL : Hid (∀ wq, Below w.heap.size w wq → Calls Tryd.prog 10 #[] wq fun e w' => e = .returned (.bool true) ∧ Below w.heap.size w w') := fun wq hq => (live_any wq (Utf8Tabs_below HT.out hq)).mono (fun e w' ⟨he, hb⟩ => ⟨he, hq.trans (hb.mono hq.size)⟩)
  have HB0 := Below.refl (w.alloc (.cells #[.string D.name, .slice ao D.steps.length cap] 24)).heap.size (w.alloc (.cells #[.string D.name, .slice ao D.steps.length cap] 24))
  have HOK : Hid ((checkM D).2 = 0 → Fine D) := (checkM_ok D).1
  clear hrow hT
  generalize (checkM D).1 = m1 at *
  generalize (checkM D).2 = m2 at *
  go_enter Tryd.func5, Tryd.ntmps5
  go_wp2_with fail
  generalize (w.alloc (.cells #[.string D.name, .slice ao D.steps.length cap] 24)) = w0 at *
  refine (C1.out _ (HW.out _ HB0).1).mono ?_
  rintro e w1 ⟨rfl, hb1⟩
  have HB1 : Hid (Below w0.heap.size w0 w1) := hb1
  clear HB0 hb1 C1
  by_cases hm : m2 = 0
  case neg =>
    have hm' : (m2 != (0 : Int)) = true := by simpa using hm
    clear hm
    go_wp2_with fail
    refine (CL.out _ (HW.out _ HB1.out).1).mono ?_
    rintro e w2 ⟨rfl, hb2⟩
    go_wp2_with fail
    go_ret
    exact ⟨rfl, hb2⟩
  have HF : Hid (Fine D) := HOK.out hm
  have hm' : (m2 != (0 : Int)) = false := by simpa using hm
  have h8 : D.steps.length ≤ 8 := HF.out.few
  have h1 : 1 ≤ D.steps.length := HF.out.some
  clear hm HOK HDI HD
  go_wp2_with fail
  go_loopw [5, 6, 7, 8, 9, 10] (fun pv i _ _ _ _ wr => ∃ m : Nat, m ≤ D.steps.length ∧ i = .int .i64 (m : Int) ∧ pv = .int .i64 (pivots D.steps m : Int) ∧ Hid (Below w0.heap.size w0 wr)) (fun _ i _ _ _ _ _ => D.steps.length - (intOf i).toNat)
  case atStart => exact ⟨0, Nat.zero_le _, rfl, rfl, HB1⟩
  case round =>
    obtain ⟨m, hm, rfl, rfl, HB⟩ := hrel
    obtain ⟨k2, p1⟩ := HW.out _ HB.out
    have HK : Hid (Below w.heap.size w wr) := k2
    clear k2 HB1
    by_cases hlt : m < D.steps.length
    · obtain ⟨g, o, rfl, hg, hs⟩ := HROW.out m hlt
      have HCELL : Hid (∀ j, j < D.steps.length → StepIn w g (o + j * 5) (nth D.steps j)) := fun j hj => by
        obtain ⟨g', o', e, _, k⟩ := HROW.out j hj
        cases e
        exact k
      obtain ⟨c0, c1, c2, kv, nv, c3, c4, c5, c6⟩ := hs.below hg HK.out
      obtain ⟨ka, kc, rfl⟩ := c5.slice
      obtain ⟨na, nc, rfl, hnc, _, hnl, hnr⟩ := c6
      have HNR : Hid (∀ j, j < (nth D.steps m).needs.length → ∃ g o, na = some ⟨g, o, none⟩ ∧ g < wr.heap.size ∧ wr.cell? ⟨g, o + j, none⟩ = some (.int .i64 (needAt (nth D.steps m).needs j))) := hnr
      obtain ⟨_, hTW, _, _, _, hNO⟩ := fault_none (HF.out.step m hlt)
      have HTW : Hid (¬ Twice D.steps m) := hTW
      have HNO : Hid (∀ j, j < (nth D.steps m).needs.length → ∃ x : Nat, needAt (nth D.steps m).needs j = (x : Int) ∧ x < D.steps.length ∧ (¬ (nth D.steps m).kind = 3 → (nth D.steps x).kind = 1)) := fun j hj => by
        obtain ⟨h0, h2, _⟩ := hNO j hj
        refine ⟨(needAt (nth D.steps m).needs j).toNat, (Int.toNat_of_nonneg h0).symm, by omega, fun hk => ?_⟩
        rcases Classical.em ((nth D.steps (needAt (nth D.steps m).needs j).toNat).kind = 1) with e | e
        · exact e
        · exact absurd ⟨hk, _, needAt_mem hj, e⟩ (HF.out.order m hlt)
      have hb2 : Below wr.heap.size wr (wr.alloc (.cells #[.string (nth D.steps m).name, .int .i64 (nth D.steps m).kind, .int .i64 (nth D.steps m).part, .slice ka (nth D.steps m).keys.length kc, .slice na (nth D.steps m).needs.length nc] 35)) := (Below.refl _ _).alloc (Nat.le_refl _) _
      have HS : Hid (∀ wq, Below (wr.alloc (.cells #[.string (nth D.steps m).name, .int .i64 (nth D.steps m).kind, .int .i64 (nth D.steps m).part, .slice ka (nth D.steps m).keys.length kc, .slice na (nth D.steps m).needs.length nc] 35)).heap.size (wr.alloc (.cells #[.string (nth D.steps m).name, .int .i64 (nth D.steps m).kind, .int .i64 (nth D.steps m).part, .slice ka (nth D.steps m).keys.length kc, .slice na (nth D.steps m).needs.length nc] 35)) wq →
          Below wr.heap.size wr wq ∧ wq.cell? ⟨w.heap.size, 1, none⟩ = some (.slice (some ⟨g, o, none⟩) D.steps.length cap) ∧ wq.cell? ⟨wr.heap.size, 0, none⟩ = some (.string (nth D.steps m).name) ∧ wq.cell? ⟨wr.heap.size, 1, none⟩ = some (.int .i64 (nth D.steps m).kind) ∧ wq.cell? ⟨wr.heap.size, 4, none⟩ = some (.slice na (nth D.steps m).needs.length nc)) := fun wq hb => by
        have hb3 : Below wr.heap.size wr wq := hb2.trans (hb.mono hb2.size)
        refine ⟨hb3, (HW.out _ (HB.out.trans (hb3.mono HB.out.size))).2, ?_, ?_, ?_⟩
        · rw [hb.cell (p := ⟨wr.heap.size, 0, none⟩) (by simp), World.cell?_alloc_new]; rfl
        · rw [hb.cell (p := ⟨wr.heap.size, 1, none⟩) (by simp), World.cell?_alloc_new]; rfl
        · rw [hb.cell (p := ⟨wr.heap.size, 4, none⟩) (by simp), World.cell?_alloc_new]; rfl
      have HBB := Below.refl (wr.alloc (.cells #[.string (nth D.steps m).name, .int .i64 (nth D.steps m).kind, .int .i64 (nth D.steps m).part, .slice ka (nth D.steps m).keys.length kc, .slice na (nth D.steps m).needs.length nc] 35)).heap.size (wr.alloc (.cells #[.string (nth D.steps m).name, .int .i64 (nth D.steps m).kind, .int .i64 (nth D.steps m).part, .slice ka (nth D.steps m).keys.length kc, .slice na (nth D.steps m).needs.length nc] 35))
      have hpv : pivots D.steps m ≤ 1 := pivots_le HF.out.pivot m (by omega)
      have HPV : Hid ((nth D.steps m).kind = 2 ∧ pivots D.steps (m + 1) = pivots D.steps m + 1 ∨ ¬ (nth D.steps m).kind = 2 ∧ pivots D.steps (m + 1) = pivots D.steps m) := by
        by_cases e : (nth D.steps m).kind = 2
        · exact Or.inl ⟨e, pivots_yes e⟩
        · exact Or.inr ⟨e, pivots_no e⟩
      have HWR : Hid (∀ wq, Below wr.heap.size wr wq → Below w.heap.size w wq ∧ Below w0.heap.size w0 wq) := fun wq hq => ⟨HK.out.trans (hq.mono HK.out.size), HB.out.trans (hq.mono HB.out.size)⟩
      have HNR2 : Hid (∀ wq, Below wr.heap.size wr wq → ∀ j, j < (nth D.steps m).needs.length → ∃ g o, na = some ⟨g, o, none⟩ ∧ wq.cell? ⟨g, o + j, none⟩ = some (.int .i64 (needAt (nth D.steps m).needs j))) := fun wq hq j hj => by
        obtain ⟨g, o, e1, e2, e3⟩ := HNR.out j hj
        exact ⟨g, o, e1, (hq.cell (p := ⟨g, o + j, none⟩) e2).trans e3⟩
      clear hs c5 hnr hTW hNO hb2 HNR HROW
      rcases HPV.out with ⟨hk2, hp2⟩ | ⟨hk2, hp2⟩
      case' inl => have hk3 : ((nth D.steps m).kind == (2 : Int)) = true := by simpa using hk2
      case' inr => have hk3 : ((nth D.steps m).kind == (2 : Int)) = false := by simpa using hk2
      all_goals (
        have HP2 : Hid (pivots D.steps (m + 1) = _) := hp2
        clear HPV hk2 hp2
        go_wp2_with fail
        generalize (wr.alloc (.cells #[.string (nth D.steps m).name, .int .i64 (nth D.steps m).kind, .int .i64 (nth D.steps m).part, .slice ka (nth D.steps m).keys.length kc, .slice na (nth D.steps m).needs.length nc] 35)) = w2 at *
        clear c0 c1 c2 c3 c4 p1 hk3
        have HBB2 : Hid (Below w2.heap.size w2 w2) := HBB
        clear HBB
        generalize hsz : wr.heap.size = sb at *
        clear hsz
        go_loopw [8] (fun k wq => ∃ n : Nat, n ≤ m ∧ k = .int .i64 (n : Int) ∧ Hid (Below w2.heap.size w2 wq)) (fun k _ => m - (intOf k).toNat)
        case atStart => exact ⟨0, Nat.zero_le _, rfl, HBB2⟩
        case round =>
          obtain ⟨n, hn, rfl, HB2⟩ := hrel
          obtain ⟨hbr, q1, q2, q3, q4⟩ := HS.out _ HB2.out
          have HBR : Hid _ := hbr
          clear hbr
          by_cases hlt2 : n < m
          · obtain ⟨d0, _⟩ := (HCELL.out n (by omega)).below hg (HWR.out _ HBR.out).1
            have hne : ((nth D.steps n).name.toList == (nth D.steps m).name.toList) = false := txt_ne (fun e => HTW.out ⟨n, hlt2, e⟩)
            clear HBR q4 q3
            go_wp2
            go_quiet (fail)
            go_wp2
            exact ⟨⟨n + 1, by omega, by go_num, below_drewN HB2.out _⟩, by simp [intOf]; omega⟩
          · have hnm : ¬ (n : Int) < (m : Int) := by omega
            go_wp2_with fail
            clear q1 q2 q3 q4
            go_loopw [9, 10] (fun k _ wq => ∃ n : Nat, n ≤ (nth D.steps m).needs.length ∧ k = .int .i64 (n : Int) ∧ Hid (Below w2.heap.size w2 wq)) (fun k _ _ => (nth D.steps m).needs.length - (intOf k).toNat)
            case atStart => exact ⟨0, Nat.zero_le _, rfl, HB2⟩
            case round =>
              obtain ⟨n3, hn3, rfl, HB3⟩ := hrel
              obtain ⟨hbr, q1, q2, q3, q4⟩ := HS.out _ HB3.out
              have HBR3 : Hid _ := hbr
              clear hbr
              by_cases hlt3 : n3 < (nth D.steps m).needs.length
              · obtain ⟨x, hx, hxl, hxk⟩ := HNO.out n3 hlt3
                obtain ⟨g2, o2, rfl, e1⟩ := HNR2.out _ HBR3.out n3 hlt3
                rw [hx] at e1
                obtain ⟨_, d1, _⟩ := (HCELL.out x hxl).below hg (HWR.out _ HBR3.out).1
                have hxl2 : (x : Int) < (D.steps.length : Int) := by omega
                clear hx HBR3 HNR2 HNO HBR
                by_cases hk : (nth D.steps m).kind = 3
                · have hk' : ((nth D.steps m).kind != (3 : Int)) = false := by simpa using hk
                  clear hk hxk
                  go_wp2
                  exact ⟨⟨n3 + 1, by omega, by go_num, HB3⟩, by simp [intOf]; omega⟩
                · have hk' : ((nth D.steps m).kind != (3 : Int)) = true := by simpa using hk
                  rw [hxk hk] at d1
                  clear hk hxk
                  go_wp2
                  exact ⟨⟨n3 + 1, by omega, by go_num, HB3⟩, by simp [intOf]; omega⟩
              · have hn4 : ¬ (n3 : Int) < ((nth D.steps m).needs.length : Int) := by omega
                have HB4 : Hid _ := (HWR.out _ HBR3.out).2
                clear HBR3 HNR2 HNO HBR
                go_wp2
                exact ⟨⟨m + 1, by omega, by go_num, by first | (rw [HP2.out]; done) | (rw [HP2.out]; go_num), HB4⟩, by simp [intOf]; omega⟩)
    · have hn1 : ¬ (m : Int) < (D.steps.length : Int) := by omega
      have hme : m = D.steps.length := by omega
      have HPV : Hid (pivots D.steps m ≤ 1) := pivots_le HF.out.pivot m hm
      have HEDG : Hid (∀ i, i < D.steps.length → ∀ y, CheckMath.Edge D.steps i y ↔ y < D.steps.length ∧ ∃ k, k < (nth D.steps i).needs.length ∧ needAt (nth D.steps i).needs k = (y : Int)) := fun i hi y => by
        refine ⟨fun e => ⟨e.2.1, mem_needAt e.2.2⟩, fun ⟨h1, k, hk, e⟩ => ⟨hi, h1, by rw [← e]; exact needAt_mem hk⟩⟩
      have HNO : Hid (∀ i, i < D.steps.length → ∀ j, j < (nth D.steps i).needs.length → ∃ x : Nat, needAt (nth D.steps i).needs j = (x : Int) ∧ x < D.steps.length) := fun i hi j hj => by
        obtain ⟨_, _, _, _, _, hNO⟩ := fault_none (HF.out.step i hi)
        obtain ⟨h0, h2, _⟩ := hNO j hj
        exact ⟨(needAt (nth D.steps i).needs j).toNat, (Int.toNat_of_nonneg h0).symm, by omega⟩
      have HRING : Hid (∀ i, i < D.steps.length → ¬ Ring D.steps i) := HF.out.ring
      obtain ⟨w3, hmk, hg0⟩ := mk_bools wr D.steps.length h8
      obtain ⟨wrA, hwrA⟩ : ∃ x, x = wr := ⟨wr, rfl⟩
      rw [← hwrA] at hg0
      have HG0 : Hid (GoneAt wrA D.steps.length (fun _ => false) w3) := hg0
      have HWG : Hid (∀ l wq, GoneAt wrA D.steps.length l wq → Below w.heap.size w wq ∧ wq.cell? ⟨w.heap.size, 1, none⟩ = some (.slice ao D.steps.length cap)) := fun l wq hq =>
        HW.out _ (by have hB := HB.out; rw [← hwrA] at hB; exact hB.trans (hq.bel.mono hB.size))
      obtain ⟨_, p2⟩ := HWG.out _ _ hg0
      clear hme hg0 HF HW
      go_wp2_with fail
      clear hmk p1 p2
      have hgb : wrA.heap.size = wr.heap.size := by rw [hwrA]
      clear hwrA
      generalize wr.heap.size = gb at *
      go_loopw [12, 13, 14, 15] (fun r _ _ _ wq => ∃ (n : Nat) (l : Nat → Bool), n ≤ D.steps.length ∧ r = .int .i64 (n : Int) ∧ Hid (GoneAt wrA D.steps.length l wq) ∧ Hid (GoneInv D.steps n l)) (fun r _ _ _ _ => D.steps.length - (intOf r).toNat)
      case atStart => exact ⟨0, _, Nat.zero_le _, rfl, HG0, Or.inr (Nat.zero_le _)⟩
      case round =>
        obtain ⟨r, l0, hr, rfl, HG1, HI⟩ := hrel
        obtain ⟨_, p1⟩ := HWG.out _ _ HG1.out
        by_cases hltr : r < D.steps.length
        · go_wp2_with fail
          clear p1
          go_loopw [13, 14, 15] (fun i _ _ wq => ∃ (n : Nat) (l : Nat → Bool), n ≤ D.steps.length ∧ i = .int .i64 (n : Int) ∧ Hid (GoneAt wrA D.steps.length l wq) ∧ Hid (InRound D.steps l0 l n)) (fun i _ _ _ => D.steps.length - (intOf i).toNat)
          case atStart => exact ⟨0, l0, Nat.zero_le _, rfl, HG1, InRound.start _ _⟩
          case round =>
            obtain ⟨n, l, hn, rfl, HG2, HIR⟩ := hrel
            obtain ⟨hbw, p1⟩ := HWG.out _ _ HG2.out
            by_cases hltn : n < D.steps.length
            · obtain ⟨g, o, rfl, hg, hs⟩ := HROW.out n hltn
              obtain ⟨_, _, _, kv, nv, _, c4, _, c6⟩ := hs
              obtain ⟨na, nc, rfl, hnc, _, hnl, hnr⟩ := c6
              have HST : Hid (∀ l wq, GoneAt wrA D.steps.length l wq → wq.cell? ⟨g, o + n * 5 + 4, none⟩ = some (.slice na (nth D.steps n).needs.length nc) ∧ wq.cell? ⟨w.heap.size, 1, none⟩ = some (.slice (some ⟨g, o, none⟩) D.steps.length cap)) := fun l wq hq =>
                ⟨((HWG.out _ _ hq).1.cell (p := ⟨g, o + n * 5 + 4, none⟩) hg).trans c4, (HWG.out _ _ hq).2⟩
              have HNR : Hid (∀ l wq, GoneAt wrA D.steps.length l wq → ∀ j, j < (nth D.steps n).needs.length → ∃ g o x, na = some ⟨g, o, none⟩ ∧ wq.cell? ⟨g, o + j, none⟩ = some (.int .i64 ((x : Nat) : Int)) ∧ needAt (nth D.steps n).needs j = (x : Int) ∧ x < D.steps.length ∧ wq.cell? ⟨gb, x, none⟩ = some (.bool (l x))) := fun l wq hq j hj => by
                obtain ⟨g2, o2, e1, e2, e3⟩ := hnr j hj
                obtain ⟨x, hx, hxl⟩ := HNO.out n hltn j hj
                refine ⟨g2, o2, x, e1, ?_, hx, hxl, ?_⟩
                · rw [← hx]; exact ((HWG.out _ _ hq).1.cell (p := ⟨g2, o2 + j, none⟩) e2).trans e3
                · rw [← hgb]; exact (hq.cell x hxl).1
              clear hnr c4 hbw
              go_wp2_with fail
              clear p1
              go_loopw [14, 15] (fun fr k wq => ∃ (kk : Nat) (b : Bool), kk ≤ (nth D.steps n).needs.length ∧ k = .int .i64 (kk : Int) ∧ fr = .bool b ∧ Hid (GoneAt wrA D.steps.length l wq) ∧ Hid ((∀ j, j < kk → l (needAt (nth D.steps n).needs j).toNat = true) → b = true)) (fun _ k _ => (nth D.steps n).needs.length - (intOf k).toNat)
              case atStart => exact ⟨0, true, Nat.zero_le _, rfl, rfl, HG2, fun _ => rfl⟩
              case round =>
                obtain ⟨kk, b, hkk, rfl, rfl, HG3, HFB⟩ := hrel
                obtain ⟨s4, p1⟩ := HST.out _ _ HG3.out
                by_cases hltk : kk < (nth D.steps n).needs.length
                · obtain ⟨g2, o2, x, rfl, e1, hx, hxl, e2⟩ := HNR.out _ _ HG3.out kk hltk
                  have HFB3 : Hid (∀ b2, (b = true → b2 = l x) → (b = false → b2 = false) → (∀ j, j < kk + 1 → l (needAt (nth D.steps n).needs j).toNat = true) → b2 = true) := fun b2 h1 h2 h3 => by
                    have hb : b = true := HFB.out (fun j hj => h3 j (by omega))
                    rw [h1 hb]
                    have := h3 kk (by omega)
                    rw [hx] at this
                    simpa using this
                  have hxl2 : (x : Int) < (D.steps.length : Int) := by omega
                  clear HNR HFB hx HST
                  generalize l x = lx at *
                  cases b with
                  | true =>
                    go_wp2
                    exact ⟨⟨kk + 1, lx, by omega, by go_num, rfl, HG3, HFB3.out lx (fun _ => rfl) (fun h => by cases h)⟩, by simp [intOf]; omega⟩
                  | false =>
                    go_wp2
                    exact ⟨⟨kk + 1, false, by omega, by go_num, rfl, HG3, HFB3.out false (fun h => by cases h) (fun _ => rfl)⟩, by simp [intOf]; omega⟩
                · have hnk : ¬ (kk : Int) < ((nth D.steps n).needs.length : Int) := by omega
                  obtain ⟨t1, t2⟩ := HG3.out.cell n hltn
                  rw [hgb] at t1 t2
                  have HSET : Hid (GoneAt wrA D.steps.length (updB l n (l n || b)) (wr.setCell ⟨gb, n, none⟩ (.bool (l n || b)))) := by rw [← hgb]; exact HG3.out.set n (l n || b)
                  have HIR2 : Hid (InRound D.steps l0 (updB l n (l n || b)) (n + 1)) := HIR.out.more (fun h => HFB.out (fun j hj => by
                    have hj2 : j < (nth D.steps n).needs.length := by omega
                    obtain ⟨x, hx, hxl⟩ := HNO.out n hltn j hj2
                    rw [hx]
                    exact h x ((HEDG.out n hltn x).2 ⟨hxl, j, hj2, hx⟩)))
                  have hltn2 : (n : Int) < (D.steps.length : Int) := by omega
                  clear HNR HFB HST
                  generalize l n = ln at *
                  cases ln with
                  | true =>
                    go_wp2
                    exact ⟨⟨n + 1, _, by omega, by go_num, HSET, HIR2⟩, by simp [intOf]; omega⟩
                  | false =>
                    go_wp2
                    exact ⟨⟨n + 1, _, by omega, by go_num, HSET, HIR2⟩, by simp [intOf]; omega⟩
            · have hnn : ¬ (n : Int) < (D.steps.length : Int) := by omega
              have HI2 : Hid (GoneInv D.steps (r + 1) l) := HI.out.step HRING.out (by rw [show D.steps.length = n by omega]; exact HIR.out)
              go_wp2
              exact ⟨⟨r + 1, l, by omega, by go_num, HG2, HI2⟩, by simp [intOf]; omega⟩
        · have hnr : ¬ (r : Int) < (D.steps.length : Int) := by omega
          have HALL : Hid (∀ j, j < D.steps.length → l0 j = true) := GoneInv.all (by have := HI.out; rwa [show r = D.steps.length by omega] at this)
          go_wp2_with fail
          clear p1
          go_loopw [16] (fun i wq => ∃ n : Nat, n ≤ D.steps.length ∧ i = .int .i64 (n : Int) ∧ Hid (GoneAt wrA D.steps.length l0 wq)) (fun i _ => D.steps.length - (intOf i).toNat)
          case atStart => exact ⟨0, Nat.zero_le _, rfl, HG1⟩
          case round =>
            obtain ⟨n, hn, rfl, HG2⟩ := hrel
            obtain ⟨hbw, p1⟩ := HWG.out _ _ HG2.out
            by_cases hltn : n < D.steps.length
            · obtain ⟨t1, t2⟩ := HG2.out.cell n hltn
              rw [hgb, HALL.out n hltn] at t1
              have hltn2 : (n : Int) < (D.steps.length : Int) := by omega
              clear t2 hbw
              go_wp2
              exact ⟨⟨n + 1, by omega, by go_num, HG2⟩, by simp [intOf]; omega⟩
            · have hnn : ¬ (n : Int) < (D.steps.length : Int) := by omega
              have hpv : (pivots D.steps m : Int) ≤ 1 := by have := HPV.out; omega
              go_wp2_with fail
              refine (CL.out _ hbw).mono ?_
              rintro e w4 ⟨rfl, hb4⟩
              go_wp2_with fail
              go_ret
              exact ⟨rfl, hb4⟩
end Go.Proofs.YtbifnpemfkmckaaDoor
