/- The texts FitW, RefYdW, RefUdW, FillW, one behind the other. -/
import Derived.Test.YtmjnllldjeeigaaDoorPkH
/- The walk of the document's fit. -/
set_option linter.unusedVariables false
set_option maxRecDepth 100000
namespace Go.Proofs.YtmjnllldjeeigaaDoor
open Go.RowKit CheckMath
open Go.Proofs.YtmjnllldjeeigaaDoor.Nm

set_option maxHeartbeats 2000000 in
theorem refFit_any (v : Value) (D : DefD) (hz : SzD D) (so : Option Addr) (sc : Nat) (st : List Int) (w : World) (h : DefIn w v D) (hs : IRow w (.slice so st.length sc) st) :
    Calls Tryd.prog 37 #[v, .slice so st.length sc] w fun e w' => e = .returned (.bool (tt (Fine D ∧ FitS D.steps.length st))) ∧ Below w.heap.size w w' := by
  have HDI : Hid (DefIn w v D) := h
  obtain ⟨sv, rfl, hd⟩ := h
  obtain ⟨ao, cap, rfl, hcap, _, hlen, _⟩ := hd
  obtain ⟨bo, cbp, e, hcbp, _, hlen2, hrow⟩ := hs
  cases e
  have HR : Hid (∀ j, j < st.length → ∃ g o, so = some ⟨g, o, none⟩ ∧ g < w.heap.size ∧ w.cell? ⟨g, o + j, none⟩ = some (.int .i64 (needAt st j))) := hrow
  have HB0 : Hid (Below w.heap.size w (w.alloc (.cells #[.string D.name, .slice ao D.steps.length cap] 24))) := (Below.refl _ _).alloc (Nat.le_refl _) _
  have CM : Hid (Calls Tryd.prog 28 #[.agg #[.string D.name, .slice ao D.steps.length cap]] (w.alloc (.cells #[.string D.name, .slice ao D.steps.length cap] 24)) fun e w' => e = .returned (.bool (tt (Fine D))) ∧ Below w.heap.size w w' ∧ w'.cell? ⟨w.heap.size, 0, none⟩ = some (.string D.name) ∧ w'.cell? ⟨w.heap.size, 1, none⟩ = some (.slice ao D.steps.length cap)) := by
    refine (refMay_any _ D hz _ (HDI.out.below HB0.out)).mono (fun e w' ⟨he, hb⟩ => ⟨he, HB0.out.trans (hb.mono HB0.out.size), ?_, ?_⟩)
    · exact (hb.cell (p := ⟨w.heap.size, 0, none⟩) (by simp)).trans (by go_simp)
    · exact (hb.cell (p := ⟨w.heap.size, 1, none⟩) (by simp)).trans (by go_simp)
  have HE0 : Hid (¬ Fine D → tt (Fine D ∧ FitS D.steps.length st) = false) := fun h => tt_no (fun k => h k.1)
  have HE1 : Hid (¬ st.length = D.steps.length → tt (Fine D ∧ FitS D.steps.length st) = false) := fun h => tt_no (fun k => h k.2.1)
  have HE2 : Hid (∀ i, i < st.length → ¬ (0 ≤ needAt st i ∧ needAt st i ≤ 5) → tt (Fine D ∧ FitS D.steps.length st) = false) := fun i hi h => tt_no (fun k => h (k.2.2 i hi))
  have HE3 : Hid (Fine D → st.length = D.steps.length → (∀ i, i < st.length → 0 ≤ needAt st i ∧ needAt st i ≤ 5) → tt (Fine D ∧ FitS D.steps.length st) = true) := fun f h k => tt_yes ⟨f, h, k⟩
  clear hrow hz HDI
  generalize tt (Fine D ∧ FitS D.steps.length st) = r at *
  by_cases hf : Fine D
  case neg =>
    have HE : Hid (r = false) := HE0.out hf
    rw [tt_no hf] at CM
    clear HE0 HE1 HE2 HE3 HR hf HB0
    go_enter Tryd.func37, Tryd.ntmps37
    go_wp2_with fail
    refine CM.out.mono ?_
    rintro e w1 ⟨rfl, hb1, p0, p1⟩
    have HB1 : Hid (Below w.heap.size w w1) := hb1
    clear hb1
    go_wp2_with fail
    go_ret
    rw [HE.out]
    exact ⟨rfl, HB1.out⟩
  rw [tt_yes hf] at CM
  have HF : Hid (Fine D) := hf
  by_cases hn : st.length = D.steps.length
  case neg =>
    have HE : Hid (r = false) := HE1.out hn
    have hn' : ((st.length : Int) != (D.steps.length : Int)) = true := by simp; omega
    clear HE0 HE1 HE2 HE3 HR hf HB0 hn
    go_enter Tryd.func37, Tryd.ntmps37
    go_wp2_with fail
    refine CM.out.mono ?_
    rintro e w1 ⟨rfl, hb1, p0, p1⟩
    have HB1 : Hid (Below w.heap.size w w1) := hb1
    clear hb1
    go_wp2_with fail
    go_ret
    rw [HE.out]
    exact ⟨rfl, HB1.out⟩
  have hn' : ((st.length : Int) != (D.steps.length : Int)) = false := by simp; omega
  have HN : Hid (st.length = D.steps.length) := hn
  clear HE0 HE1 hf HB0 hn
  go_enter Tryd.func37, Tryd.ntmps37
  go_wp2_with fail
  refine CM.out.mono ?_
  rintro e w1 ⟨rfl, hb1, p0, p1⟩
  have HBX : Hid (Below w.heap.size w w1) := hb1
  clear hb1 CM
  go_wp2_with fail
  clear p0 p1 hn'
  go_loopw [4, 5] (fun _ k wr => ∃ m : Nat, m ≤ st.length ∧ k = .int .i64 (m : Int) ∧ Hid (Below w.heap.size w wr) ∧ Hid (∀ i, i < m → 0 ≤ needAt st i ∧ needAt st i ≤ 5)) (fun _ k _ => st.length - (intOf k).toNat)
  case atStart => exact ⟨0, Nat.zero_le _, rfl, HBX, fun i hi => absurd hi (Nat.not_lt_zero _)⟩
  case round =>
    obtain ⟨m, hm, rfl, HB, HT⟩ := hrel
    by_cases hlt : m < st.length
    · obtain ⟨g, o, rfl, hg, c0⟩ := HR.out m hlt
      have d0 := (HB.out.cell (p := ⟨g, o + m, none⟩) hg).trans c0
      have hltI : (m : Int) < (st.length : Int) := by omega
      have HNO : Hid (¬ (0 ≤ needAt st m ∧ needAt st m ≤ 5) → r = false) := HE2.out m hlt
      have HYES : Hid ((0 ≤ needAt st m ∧ needAt st m ≤ 5) → ∀ i, i < m + 1 → 0 ≤ needAt st i ∧ needAt st i ≤ 5) := fun h i hi => by
        by_cases e : i = m
        · subst e; exact h
        · exact HT.out i (by omega)
      clear c0 HR HE2 HE3 HT
      by_cases h1 : needAt st m < 0
      · have HE : Hid (r = false) := HNO.out (by omega)
        clear HNO HYES
        generalize needAt st m = x at *
        go_wp2
        go_ret
        rw [HE.out]
        exact ⟨rfl, HB.out⟩
      by_cases h2 : 5 < needAt st m
      · have HE : Hid (r = false) := HNO.out (by omega)
        clear HNO HYES
        generalize needAt st m = x at *
        go_wp2
        go_ret
        rw [HE.out]
        exact ⟨rfl, HB.out⟩
      · have HT2 : Hid (∀ i, i < m + 1 → 0 ≤ needAt st i ∧ needAt st i ≤ 5) := HYES.out (by omega)
        clear HNO HYES
        generalize needAt st m = x at d0 h1 h2
        go_wp2
        exact ⟨⟨m + 1, by omega, by go_num, HB, HT2⟩, by simp [intOf]; omega⟩
    · have hltI : ¬ (m : Int) < (st.length : Int) := by omega
      have HE : Hid (r = true) := HE3.out HF.out HN.out (fun i hi => HT.out i (by omega))
      clear HE2 HE3 HR HT
      go_wp2
      go_ret
      rw [HE.out]
      exact ⟨rfl, HB.out⟩
end Go.Proofs.YtmjnllldjeeigaaDoor

/- The walk of the document's Ready. -/
set_option linter.unusedVariables false
set_option maxRecDepth 100000
namespace Go.Proofs.YtmjnllldjeeigaaDoor
open Go.RowKit CheckMath
open Go.Proofs.YtmjnllldjeeigaaDoor.Nm

theorem updB_same (l : Nat → Bool) (i : Nat) (v : Bool) : updB l i v i = v := by simp [updB]
theorem updB_other (l : Nat → Bool) (i y : Nat) (v : Bool) (h : y ≠ i) : updB l i v y = l y := by simp [updB, h]
theorem readyL_no {D : DefD} {st : List Int} (h : ¬ (Fine D ∧ FitS D.steps.length st)) : readyL D st = [] := by unfold readyL; rw [if_neg (by rw [tt_no h]; simp)]
theorem readyL_yes {D : DefD} {st : List Int} (h : Fine D ∧ FitS D.steps.length st) {l : Nat → Bool} (hl : ∀ y, y < D.steps.length → (l y = true ↔ ReadyP D st y)) : readyL D st = nl l D.steps.length := by
  unfold readyL
  rw [if_pos (tt_yes h)]
  refine nl_congr fun y hy => ?_
  cases e : l y with
  | true => exact tt_yes ((hl y hy).1 e)
  | false => exact tt_no (fun h => by rw [(hl y hy).2 h] at e; cases e)
set_option maxHeartbeats 4000000 in
theorem refReadyTop_any (v : Value) (D : DefD) (hz : SzD D) (so : Option Addr) (sc : Nat) (st : List Int) (w : World) (h : DefIn w v D) (hs : IRow w (.slice so st.length sc) st) :
    Calls Tryd.prog 19 #[v, .slice so st.length sc] w fun e w' => RowOf w (readyL D st) e w' := by
  have HDI : Hid (DefIn w v D) := h
  have HSI : Hid (IRow w (.slice so st.length sc) st) := hs
  obtain ⟨sv, rfl, hd⟩ := h
  obtain ⟨ao, cap, rfl, hcap, _, hlen, _⟩ := hd
  obtain ⟨bo, cbp, e, hcbp, _, hlen2, hrow⟩ := hs
  cases e
  have HR : Hid (∀ j, j < st.length → ∃ g o, so = some ⟨g, o, none⟩ ∧ g < w.heap.size ∧ w.cell? ⟨g, o + j, none⟩ = some (.int .i64 (needAt st j))) := hrow
  have HB0 : Hid (Below w.heap.size w (w.alloc (.cells #[.string D.name, .slice ao D.steps.length cap] 24))) := (Below.refl _ _).alloc (Nat.le_refl _) _
  have CM : Hid (Calls Tryd.prog 37 #[.agg #[.string D.name, .slice ao D.steps.length cap], .slice so st.length sc] (w.alloc (.cells #[.string D.name, .slice ao D.steps.length cap] 24)) fun e w' => e = .returned (.bool (tt (Fine D ∧ FitS D.steps.length st))) ∧ Below (w.alloc (.cells #[.string D.name, .slice ao D.steps.length cap] 24)).heap.size (w.alloc (.cells #[.string D.name, .slice ao D.steps.length cap] 24)) w') := refFit_any _ D hz so sc st _ (HDI.out.below HB0.out) (HSI.out.below HB0.out)
  have HNO : Hid (¬ (Fine D ∧ FitS D.steps.length st) → readyL D st = []) := readyL_no
  clear hz hrow
  by_cases hf : Fine D ∧ FitS D.steps.length st
  case neg =>
    rw [tt_no hf] at CM
    have HL : Hid (readyL D st = []) := HNO.out hf
    clear HNO hf HR HSI HDI
    go_enter Tryd.func19, Tryd.ntmps19
    go_wp2_with fail
    refine CM.out.mono ?_
    rintro e w1 ⟨rfl, hb1⟩
    have HB1 : Hid (Below w.heap.size w w1) := HB0.out.trans (hb1.mono HB0.out.size)
    clear hb1 HB0
    go_wp2_with fail
    go_ret
    rw [HL.out]
    exact rowOf_nil _ _ HB1.out
  rw [tt_yes hf] at CM
  have HL : Hid (∀ l : Nat → Bool, (∀ y, y < D.steps.length → (l y = true ↔ ReadyP D st y)) → readyL D st = nl l D.steps.length) := fun l hl => readyL_yes hf hl
  have hn : st.length = D.steps.length := hf.2.1
  have h8 : D.steps.length ≤ 8 := hf.1.few
  have CA : Hid (∀ b, b < st.length → ∀ wq, Below w.heap.size w wq → Calls Tryd.prog 30 #[.agg #[.string D.name, .slice ao D.steps.length cap], .int .i64 (b : Int)] wq fun e w' => ∃ l : Nat → Bool, e = .returned (.agg (bl l).toArray) ∧ (∀ y, l y = true ↔ AheadP D.steps b y) ∧ Below wq.heap.size wq w') := fun b hb wq hq => refAhead_any _ D h8 b (by omega) wq (HDI.out.below hq)
  have CN : Hid (∀ l wq, Below w.heap.size w wq → Calls Tryd.prog 29 #[.agg #[.string D.name, .slice ao D.steps.length cap], .agg (bl l).toArray] wq fun e w' => ∃ v', e = .returned v' ∧ w'.ownsRow wq.heap.size 3 1 v' (nl l D.steps.length).length ((nl l D.steps.length).map nV) ∧ Below wq.heap.size wq w') := fun l wq hq => refNumbers_any _ D h8 l wq (HDI.out.below hq)
  have HH8 : Hid (st.length ≤ 8) := hn ▸ h8
  have HNN : Hid (st.length = D.steps.length) := hn
  have HS0 : Hid (Has w.heap.size w [BlockR w.heap.size [.string D.name, .slice ao D.steps.length cap]] (w.alloc (.cells #[.string D.name, .slice ao D.steps.length cap] 24))) := (Has.start w).box [.string D.name, .slice ao D.steps.length cap] 24
  clear HNO hf HDI HSI h8 hn HB0
  go_enter Tryd.func19, Tryd.ntmps19
  go_wp2_with fail
  refine CM.out.mono ?_
  rintro e w1 ⟨rfl, hb1⟩
  have HS1 : Hid (Has w.heap.size w [BlockR w1.heap.size (bl fun _ => false), BlockR w.heap.size [.string D.name, .slice ao D.steps.length cap]] (w1.alloc (.cells #[.bool false, .bool false, .bool false, .bool false, .bool false, .bool false, .bool false, .bool false] 56))) := (HS0.out.below hb1).box (bl fun _ => false) 56
  have HW1 : Hid (w.heap.size < w1.heap.size) := by have := hb1.size; rw [World.size_alloc] at this; exact this
  have hne1 : ¬ w1.heap.size = w.heap.size := by have := HW1.out; omega
  have hne2 : ¬ w.heap.size = w1.heap.size := by have := HW1.out; omega
  clear hb1 HS0 CM
  go_wp2_with fail
  generalize (w1.alloc (.cells #[.bool false, .bool false, .bool false, .bool false, .bool false, .bool false, .bool false, .bool false] 56)) = w0 at *
  go_loopw [6, 7, 8] (fun k _ _ wr => ∃ (b : Nat) (l : Nat → Bool), b ≤ st.length ∧ k = .int .i64 (b : Int) ∧ Hid (Has w.heap.size w [BlockR w1.heap.size (bl l), BlockR w.heap.size [.string D.name, .slice ao D.steps.length cap]] wr) ∧ Hid (∀ y, y < b → (l y = true ↔ ReadyP D st y))) (fun k _ _ _ => st.length - (intOf k).toNat)
  case atStart => exact ⟨0, _, Nat.zero_le _, rfl, HS1, fun y hy => absurd hy (Nat.not_lt_zero _)⟩
  case round =>
    obtain ⟨b, l, hb, rfl, H1, HL1⟩ := hrel
    obtain ⟨p0, _⟩ := H1.out.cell (q := w.heap.size) (vs := [.string D.name, .slice ao D.steps.length cap]) (by simp) 0 _ rfl
    obtain ⟨p1, _⟩ := H1.out.cell (q := w.heap.size) (vs := [.string D.name, .slice ao D.steps.length cap]) (by simp) 1 _ rfl
    by_cases hlt : b < st.length
    · obtain ⟨g, o, rfl, hg, c0⟩ := HR.out b hlt
      have d0 := (H1.out.bel.cell (p := ⟨g, o + b, none⟩) hg).trans c0
      have hltI : (b : Int) < (st.length : Int) := by omega
      have hb8 : (b : Int) < 8 := by have := HH8.out; omega
      have hbs : b < 8 := by have := HH8.out; omega
      have C := HidMk (CA.out b hlt)
      obtain ⟨q1, q2⟩ := H1.out.cell List.mem_cons_self b _ (bl_at l b hbs)
      have HSET : Hid (Has w.heap.size w [BlockR w1.heap.size (bl (updB l b (needAt st b == 0))), BlockR w.heap.size [.string D.name, .slice ao D.steps.length cap]] (wr.setCell ⟨w1.heap.size, b, none⟩ (.bool (needAt st b == 0)))) := by
        have h4 := H1.out.put b (by show b < 8; omega) (.bool (needAt st b == 0))
        rw [bl_setb l b hbs] at h4
        exact h4
      have HZ : Hid ((needAt st b == 0) = true ↔ needAt st b = 0) := by show _ ↔ _; simp
      clear HS1 CN HL c0
      have HBS : Hid (Below w.heap.size w (wr.setCell ⟨w1.heap.size, b, none⟩ (.bool (needAt st b == 0)))) := HSET.out.bel
      clear H1
      generalize hx : needAt st b = x at *
      have HX : Hid (needAt st b = x) := hx
      clear hx
      go_wp2_with fail
      refine (C.out _ HBS.out).mono ?_
      rintro e w2 ⟨la, rfl, hla, hb2⟩
      have HLA : Hid (∀ y, la y = true ↔ AheadP D.steps b y) := hla
      have hs2 := HSET.out.below hb2
      have HQ2 : Hid (w1.heap.size < w2.heap.size) := block_lt_of_cell (hs2.cell List.mem_cons_self 0 _ (bl_at _ 0 (by omega))).1
      have HS3 : Hid (Has w.heap.size w [BlockR w2.heap.size (bl la), BlockR w1.heap.size (bl (updB l b (x == 0))), BlockR w.heap.size [.string D.name, .slice ao D.steps.length cap]] (w2.alloc (.cells #[.bool (la 0), .bool (la 1), .bool (la 2), .bool (la 3), .bool (la 4), .bool (la 5), .bool (la 6), .bool (la 7)] 56))) := hs2.box (bl la) 56
      clear hla hb2 hs2 HSET C p0 p1 q1 q2 d0
      have HW2 : Hid (w1.heap.size < w2.heap.size) := HQ2.out
      have hne3 : ¬ w2.heap.size = w1.heap.size := by have := HW2.out; omega
      have hne4 : ¬ w1.heap.size = w2.heap.size := by have := HW2.out; omega
      unfold bl
      go_wp2_with fail
      generalize (w2.alloc (.cells #[.bool (la 0), .bool (la 1), .bool (la 2), .bool (la 3), .bool (la 4), .bool (la 5), .bool (la 6), .bool (la 7)] 56)) = w3 at *
      go_loopw [8] (fun a wr => ∃ (n : Nat) (o2 : Nat → Bool), n ≤ st.length ∧ a = .int .i64 (n : Int) ∧ Hid (Has w.heap.size w [BlockR w2.heap.size (bl la), BlockR w1.heap.size (bl o2), BlockR w.heap.size [.string D.name, .slice ao D.steps.length cap]] wr) ∧ Hid ((∀ y, y ≠ b → o2 y = l y) ∧ (o2 b = true ↔ x = 0 ∧ ∀ y, y < n → la y = true → needAt st y = 2))) (fun a _ => st.length - (intOf a).toNat)
      case atStart => exact ⟨0, _, Nat.zero_le _, rfl, HS3, fun y hy => updB_other _ _ _ _ hy, by rw [updB_same]; exact ⟨fun h => ⟨HZ.out.1 h, fun y hy => absurd hy (Nat.not_lt_zero _)⟩, fun h => HZ.out.2 h.1⟩⟩
      case round =>
        obtain ⟨a, o2, ha, rfl, H2, HO⟩ := hrel
        by_cases hlta : a < st.length
        · obtain ⟨g2, o3, e, hg2, c0⟩ := HR.out a hlta
          cases e
          have d0 := (H2.out.bel.cell (p := ⟨g, o + a, none⟩) hg2).trans c0
          have hltA : (a : Int) < (st.length : Int) := by omega
          have ha8 : (a : Int) < 8 := by have := HH8.out; omega
          have has8 : a < 8 := by have := HH8.out; omega
          obtain ⟨r1, _⟩ := H2.out.cell (q := w2.heap.size) (vs := bl la) (by simp) a _ (bl_at la a has8)
          obtain ⟨q1, q2⟩ := H2.out.cell (q := w1.heap.size) (vs := bl o2) (by simp) b _ (bl_at o2 b hbs)
          have HSET : Hid (Has w.heap.size w [BlockR w2.heap.size (bl la), BlockR w1.heap.size (bl (updB o2 b false)), BlockR w.heap.size [.string D.name, .slice ao D.steps.length cap]] (wr.setCell ⟨w1.heap.size, b, none⟩ (.bool false))) := by
            have hp := H2.out.perm (List.Perm.swap (BlockR w1.heap.size (bl o2)) (BlockR w2.heap.size (bl la)) _)
            have h4 := hp.put b (by show b < 8; omega) (.bool false)
            rw [bl_setb o2 b hbs] at h4
            exact h4.perm (List.Perm.swap _ _ _)
          have HKEEP : Hid ((la a = true → needAt st a = 2) → (∀ y, y ≠ b → o2 y = l y) ∧ (o2 b = true ↔ x = 0 ∧ ∀ y, y < a + 1 → la y = true → needAt st y = 2)) := fun hk => ⟨HO.out.1, HO.out.2.trans (and_congr_right fun _ => ⟨fun h y hy hl => by
            by_cases e : y = a
            · subst e; exact hk hl
            · exact h y (by omega) hl, fun h y hy hl => h y (by omega) hl⟩)⟩
          have HDROP : Hid (la a = true → ¬ needAt st a = 2 → (∀ y, y ≠ b → updB o2 b false y = l y) ∧ (updB o2 b false b = true ↔ x = 0 ∧ ∀ y, y < a + 1 → la y = true → needAt st y = 2)) := fun h1 h2 => ⟨fun y hy => (updB_other _ _ _ _ hy).trans (HO.out.1 y hy), by rw [updB_same]; exact ⟨fun h => (by cases h), fun h => absurd (h.2 a (by omega) h1) h2⟩⟩
          clear c0 HO HS3
          cases hla : la a with
          | false =>
            rw [hla] at r1
            have HK := HidMk (HKEEP.out (fun h => by rw [hla] at h; cases h))
            clear hla HKEEP HDROP HSET
            go_wp2_with fail
            exact ⟨⟨a + 1, o2, by omega, by go_num, H2, HK⟩, by simp [intOf]; omega⟩
          | true =>
            rw [hla] at r1
            by_cases h2 : needAt st a = 2
            · have HK := HidMk (HKEEP.out (fun _ => h2))
              rw [h2] at d0
              clear hla HKEEP HDROP HSET h2
              go_wp2_with fail
              exact ⟨⟨a + 1, o2, by omega, by go_num, H2, HK⟩, by simp [intOf]; omega⟩
            · have HK := HidMk (HDROP.out hla h2)
              have h2b : (needAt st a == 2) = false := by simpa using h2
              have h2c : (needAt st a != 2) = true := by simpa using h2
              clear hla HKEEP HDROP
              generalize needAt st a = xa at d0 h2 h2b h2c
              go_wp2_with fail
              exact ⟨⟨a + 1, _, by omega, by go_num, HSET, HK⟩, by simp [intOf]; omega⟩
        · obtain rfl : a = st.length := by omega
          have H4 : Hid (Has w.heap.size w [BlockR w1.heap.size (bl o2), BlockR w.heap.size [.string D.name, .slice ao D.steps.length cap]] wr) := H2.out.drop
          have HR2 : Hid (∀ y, y < b + 1 → (o2 y = true ↔ ReadyP D st y)) := fun y hy => by
            by_cases e : y = b
            · subst e
              refine HO.out.2.trans ?_
              unfold ReadyP
              rw [HX.out]
              refine and_congr_right fun _ => ⟨fun h j hj => h j ?_ ((HLA.out j).2 hj), fun h j _ hl => h j ((HLA.out j).1 hl)⟩
              have := aheadP_lt hj
              rw [HNN.out]; exact this
            · rw [HO.out.1 y e]
              exact HL1.out y (by omega)
          clear HO H2 HS3
          go_wp2_with fail
          exact ⟨⟨b + 1, o2, by omega, by go_num, H4, HR2⟩, by simp [intOf]; omega⟩
    · have hltI : ¬ (b : Int) < (st.length : Int) := by omega
      have hbn : b = D.steps.length := by have := HNN.out; omega
      have C : Hid (∀ wq, Below w.heap.size w wq → Calls Tryd.prog 29 #[.agg #[.string D.name, .slice ao D.steps.length cap], .agg (bl l).toArray] wq fun e w' => ∃ v', e = .returned v' ∧ w'.ownsRow wq.heap.size 3 1 v' (nl l D.steps.length).length ((nl l D.steps.length).map nV) ∧ Below wq.heap.size wq w') := CN.out l
      have HLL : Hid (readyL D st = nl l D.steps.length) := HL.out l (fun y hy => HL1.out y (by omega))
      have q := fun (j : Nat) (hj : j < 8) => (H1.out.cell List.mem_cons_self j _ (bl_at l j hj)).1
      have q0 := q 0 (by omega)
      have q1 := q 1 (by omega)
      have q2 := q 2 (by omega)
      have q3 := q 3 (by omega)
      have q4 := q 4 (by omega)
      have q5 := q 5 (by omega)
      have q6 := q 6 (by omega)
      have q7 := q 7 (by omega)
      have HBW : Hid (Below w.heap.size w wr) := H1.out.bel
      clear q HS1 CA CN HL HL1 H1 hbn HR
      go_wp2_with fail
      refine (C.out _ HBW.out).mono ?_
      rintro e w2 ⟨v', rfl, hown, hb2⟩
      have HFIN : Hid (w2.ownsRow w.heap.size 3 1 v' (nl l D.steps.length).length ((nl l D.steps.length).map nV) ∧ Below w.heap.size w w2) := ⟨own_base hown HBW.out.size, HBW.out.trans (hb2.mono HBW.out.size)⟩
      clear hown hb2 C
      go_wp2_with fail
      go_ret
      rw [HLL.out]
      exact ⟨v', rfl, HFIN.out⟩
end Go.Proofs.YtmjnllldjeeigaaDoor

/- The walk of the document's Undo. -/
set_option linter.unusedVariables false
set_option maxRecDepth 100000
namespace Go.Proofs.YtmjnllldjeeigaaDoor
open Go.RowKit CheckMath
open Go.Proofs.YtmjnllldjeeigaaDoor.Nm

theorem undoL_no {D : DefD} {st : List Int} (h : ¬ (Fine D ∧ FitS D.steps.length st)) : undoL D st = [] := by unfold undoL; rw [if_neg (by rw [tt_no h]; simp)]
theorem undoL_yes {D : DefD} {st : List Int} (h : Fine D ∧ FitS D.steps.length st) {l : Nat → Bool} (hl : ∀ y, y < D.steps.length → (l y = true ↔ UndoP D st y)) : undoL D st = nl l D.steps.length := by
  unfold undoL
  rw [if_pos (tt_yes h)]
  refine nl_congr fun y hy => ?_
  cases e : l y with
  | true => exact tt_yes ((hl y hy).1 e)
  | false => exact tt_no (fun h => by rw [(hl y hy).2 h] at e; cases e)
set_option maxHeartbeats 4000000 in
theorem refUndoTop_any (v : Value) (D : DefD) (hz : SzD D) (so : Option Addr) (sc : Nat) (st : List Int) (w : World) (h : DefIn w v D) (hs : IRow w (.slice so st.length sc) st) :
    Calls Tryd.prog 20 #[v, .slice so st.length sc] w fun e w' => RowOf w (undoL D st) e w' := by
  have HDI : Hid (DefIn w v D) := h
  have HSI : Hid (IRow w (.slice so st.length sc) st) := hs
  obtain ⟨sv, rfl, hd⟩ := h
  obtain ⟨ao, cap, rfl, hcap, _, hlen, _⟩ := hd
  obtain ⟨bo, cbp, e, hcbp, _, hlen2, hrow⟩ := hs
  cases e
  have HR : Hid (∀ j, j < st.length → ∃ g o, so = some ⟨g, o, none⟩ ∧ g < w.heap.size ∧ w.cell? ⟨g, o + j, none⟩ = some (.int .i64 (needAt st j))) := hrow
  have HB0 : Hid (Below w.heap.size w (w.alloc (.cells #[.string D.name, .slice ao D.steps.length cap] 24))) := (Below.refl _ _).alloc (Nat.le_refl _) _
  have CM : Hid (Calls Tryd.prog 37 #[.agg #[.string D.name, .slice ao D.steps.length cap], .slice so st.length sc] (w.alloc (.cells #[.string D.name, .slice ao D.steps.length cap] 24)) fun e w' => e = .returned (.bool (tt (Fine D ∧ FitS D.steps.length st))) ∧ Below (w.alloc (.cells #[.string D.name, .slice ao D.steps.length cap] 24)).heap.size (w.alloc (.cells #[.string D.name, .slice ao D.steps.length cap] 24)) w') := refFit_any _ D hz so sc st _ (HDI.out.below HB0.out) (HSI.out.below HB0.out)
  have HNO : Hid (¬ (Fine D ∧ FitS D.steps.length st) → undoL D st = []) := undoL_no
  clear hz hrow
  by_cases hf : Fine D ∧ FitS D.steps.length st
  case neg =>
    rw [tt_no hf] at CM
    have HL : Hid (undoL D st = []) := HNO.out hf
    clear HNO hf HR HSI HDI
    go_enter Tryd.func20, Tryd.ntmps20
    go_wp2_with fail
    refine CM.out.mono ?_
    rintro e w1 ⟨rfl, hb1⟩
    have HB1 : Hid (Below w.heap.size w w1) := HB0.out.trans (hb1.mono HB0.out.size)
    clear hb1 HB0
    go_wp2_with fail
    go_ret
    rw [HL.out]
    exact rowOf_nil _ _ HB1.out
  rw [tt_yes hf] at CM
  have HL : Hid (∀ l : Nat → Bool, (∀ y, y < D.steps.length → (l y = true ↔ UndoP D st y)) → undoL D st = nl l D.steps.length) := fun l hl => undoL_yes hf hl
  have hn : st.length = D.steps.length := hf.2.1
  have h8 : D.steps.length ≤ 8 := hf.1.few
  have CA : Hid (∀ b, b < st.length → ∀ wq, Below w.heap.size w wq → Calls Tryd.prog 30 #[.agg #[.string D.name, .slice ao D.steps.length cap], .int .i64 (b : Int)] wq fun e w' => ∃ l : Nat → Bool, e = .returned (.agg (bl l).toArray) ∧ (∀ y, l y = true ↔ AheadP D.steps b y) ∧ Below wq.heap.size wq w') := fun b hb wq hq => refAhead_any _ D h8 b (by omega) wq (HDI.out.below hq)
  have CN : Hid (∀ l wq, Below w.heap.size w wq → Calls Tryd.prog 29 #[.agg #[.string D.name, .slice ao D.steps.length cap], .agg (bl l).toArray] wq fun e w' => ∃ v', e = .returned v' ∧ w'.ownsRow wq.heap.size 3 1 v' (nl l D.steps.length).length ((nl l D.steps.length).map nV) ∧ Below wq.heap.size wq w') := fun l wq hq => refNumbers_any _ D h8 l wq (HDI.out.below hq)
  have CS : Hid (∀ (x : Int) (wq : World), Calls Tryd.prog 38 #[.int .i64 x] wq fun e w' => e = .returned (.bool (tt (OpenS x))) ∧ w' = wq) := fun x wq => refStands_any x wq
  have HH8 : Hid (st.length ≤ 8) := hn ▸ h8
  have HNN : Hid (st.length = D.steps.length) := hn
  have HS0 : Hid (Has w.heap.size w [BlockR w.heap.size [.string D.name, .slice ao D.steps.length cap]] (w.alloc (.cells #[.string D.name, .slice ao D.steps.length cap] 24))) := (Has.start w).box [.string D.name, .slice ao D.steps.length cap] 24
  clear HNO hf HDI HSI h8 hn HB0
  go_enter Tryd.func20, Tryd.ntmps20
  go_wp2_with fail
  refine CM.out.mono ?_
  rintro e w1 ⟨rfl, hb1⟩
  have HS1 : Hid (Has w.heap.size w [BlockR w1.heap.size (bl fun _ => false), BlockR w.heap.size [.string D.name, .slice ao D.steps.length cap]] (w1.alloc (.cells #[.bool false, .bool false, .bool false, .bool false, .bool false, .bool false, .bool false, .bool false] 56))) := (HS0.out.below hb1).box (bl fun _ => false) 56
  have HW1 : Hid (w.heap.size < w1.heap.size) := by have := hb1.size; rw [World.size_alloc] at this; exact this
  have hne1 : ¬ w1.heap.size = w.heap.size := by have := HW1.out; omega
  have hne2 : ¬ w.heap.size = w1.heap.size := by have := HW1.out; omega
  clear hb1 HS0 CM
  go_wp2_with fail
  generalize (w1.alloc (.cells #[.bool false, .bool false, .bool false, .bool false, .bool false, .bool false, .bool false, .bool false] 56)) = w0 at *
  go_loopw [6, 7] (fun k _ wr => ∃ (b : Nat) (l : Nat → Bool), b ≤ st.length ∧ k = .int .i64 (b : Int) ∧ Hid (Has w.heap.size w [BlockR w1.heap.size (bl l), BlockR w.heap.size [.string D.name, .slice ao D.steps.length cap]] wr) ∧ Hid (∀ y, y < b → (l y = true ↔ UndoP D st y))) (fun k _ _ => st.length - (intOf k).toNat)
  case atStart => exact ⟨0, _, Nat.zero_le _, rfl, HS1, fun y hy => absurd hy (Nat.not_lt_zero _)⟩
  case round =>
    obtain ⟨b, l, hb, rfl, H1, HL1⟩ := hrel
    obtain ⟨p0, _⟩ := H1.out.cell (q := w.heap.size) (vs := [.string D.name, .slice ao D.steps.length cap]) (by simp) 0 _ rfl
    obtain ⟨p1, _⟩ := H1.out.cell (q := w.heap.size) (vs := [.string D.name, .slice ao D.steps.length cap]) (by simp) 1 _ rfl
    by_cases hlt : b < st.length
    · obtain ⟨g, o, rfl, hg, c0⟩ := HR.out b hlt
      have d0 := (H1.out.bel.cell (p := ⟨g, o + b, none⟩) hg).trans c0
      have hltI : (b : Int) < (st.length : Int) := by omega
      have hb8 : (b : Int) < 8 := by have := HH8.out; omega
      have hbs : b < 8 := by have := HH8.out; omega
      obtain ⟨q1, q2⟩ := H1.out.cell List.mem_cons_self b _ (bl_at l b hbs)
      have HSET : Hid (Has w.heap.size w [BlockR w1.heap.size (bl (updB l b (tt (OpenS (needAt st b))))), BlockR w.heap.size [.string D.name, .slice ao D.steps.length cap]] (wr.setCell ⟨w1.heap.size, b, none⟩ (.bool (tt (OpenS (needAt st b)))))) := by
        have h4 := H1.out.put b (by show b < 8; omega) (.bool (tt (OpenS (needAt st b))))
        rw [bl_setb l b hbs] at h4
        exact h4
      have HZ : Hid (tt (OpenS (needAt st b)) = true ↔ OpenS (needAt st b)) := tt_iff
      clear HS1 CN HL c0
      generalize hx : needAt st b = x at *
      have HX : Hid (needAt st b = x) := hx
      clear hx H1
      go_wp2_with fail
      refine (CS.out x wr).mono ?_
      rintro e w9 ⟨rfl, hw9⟩
      rw [hw9]
      clear hw9 w9
      generalize tt (OpenS x) = z at *
      go_wp2_with fail
      generalize (wr.setCell ⟨w1.heap.size, b, none⟩ (.bool z)) = w3 at *
      clear d0 q1 q2 p0 p1
      go_loopw [7] (fun a wr => ∃ (n : Nat) (o2 : Nat → Bool), n ≤ st.length ∧ a = .int .i64 (n : Int) ∧ Hid (Has w.heap.size w [BlockR w1.heap.size (bl o2), BlockR w.heap.size [.string D.name, .slice ao D.steps.length cap]] wr) ∧ Hid ((∀ y, y ≠ b → o2 y = l y) ∧ (o2 b = true ↔ OpenS x ∧ ∀ y, y < n → OpenS (needAt st y) → ¬ AheadP D.steps y b))) (fun a _ => st.length - (intOf a).toNat)
      case atStart => exact ⟨0, _, Nat.zero_le _, rfl, HSET, fun y hy => updB_other _ _ _ _ hy, by rw [updB_same]; exact ⟨fun h => ⟨HZ.out.1 h, fun y hy => absurd hy (Nat.not_lt_zero _)⟩, fun h => HZ.out.2 h.1⟩⟩
      case round =>
        obtain ⟨a, o2, ha, rfl, H2, HO⟩ := hrel
        by_cases hlta : a < st.length
        · obtain ⟨g2, o3, e, hg2, c0⟩ := HR.out a hlta
          cases e
          have d0 := (H2.out.bel.cell (p := ⟨g, o + a, none⟩) hg2).trans c0
          have hltA : (a : Int) < (st.length : Int) := by omega
          obtain ⟨p0, _⟩ := H2.out.cell (q := w.heap.size) (vs := [.string D.name, .slice ao D.steps.length cap]) (by simp) 0 _ rfl
          obtain ⟨p1, _⟩ := H2.out.cell (q := w.heap.size) (vs := [.string D.name, .slice ao D.steps.length cap]) (by simp) 1 _ rfl
          have C := HidMk (CA.out a hlta)
          have HBW : Hid (Below w.heap.size w wr) := H2.out.bel
          have HKEEP : Hid ((OpenS (needAt st a) → ¬ AheadP D.steps a b) → (∀ y, y ≠ b → o2 y = l y) ∧ (o2 b = true ↔ OpenS x ∧ ∀ y, y < a + 1 → OpenS (needAt st y) → ¬ AheadP D.steps y b)) := fun hk => ⟨HO.out.1, HO.out.2.trans (and_congr_right fun _ => ⟨fun h y hy hl => by
            by_cases e : y = a
            · subst e; exact hk hl
            · exact h y (by omega) hl, fun h y hy hl => h y (by omega) hl⟩)⟩
          have HDROP : Hid (OpenS (needAt st a) → AheadP D.steps a b → (∀ y, y ≠ b → updB o2 b false y = l y) ∧ (updB o2 b false b = true ↔ OpenS x ∧ ∀ y, y < a + 1 → OpenS (needAt st y) → ¬ AheadP D.steps y b)) := fun h1 h2 => ⟨fun y hy => (updB_other _ _ _ _ hy).trans (HO.out.1 y hy), by rw [updB_same]; exact ⟨fun h => (by cases h), fun h => absurd h2 (h.2 a (by omega) h1)⟩⟩
          clear c0 HO HSET
          have S1 := HidMk (CS.out (needAt st a) wr)
          by_cases ho : OpenS (needAt st a)
          · rw [tt_yes ho] at S1
            generalize needAt st a = xa at *
            clear CS CA HR
            go_wp2_with fail
            refine S1.out.mono ?_
            rintro e w9 ⟨rfl, hw9⟩
            rw [hw9]
            clear hw9 w9 S1
            go_wp2_with fail
            refine (C.out wr HBW.out).mono ?_
            rintro e w5 ⟨la, rfl, hla, hb5⟩
            have H5 : Hid (Has w.heap.size w [BlockR w1.heap.size (bl o2), BlockR w.heap.size [.string D.name, .slice ao D.steps.length cap]] w5) := H2.out.below hb5
            obtain ⟨q1, q2⟩ := H5.out.cell (q := w1.heap.size) (vs := bl o2) (by simp) b _ (bl_at o2 b hbs)
            have k1 := fun wq => idx_bl la b hbs wq
            have HSET : Hid (Has w.heap.size w [BlockR w1.heap.size (bl (updB o2 b false)), BlockR w.heap.size [.string D.name, .slice ao D.steps.length cap]] (w5.setCell ⟨w1.heap.size, b, none⟩ (.bool false))) := by
              have h4 := H5.out.put b (by show b < 8; omega) (.bool false)
              rw [bl_setb o2 b hbs] at h4
              exact h4
            clear C H2 hb5 p0 p1 d0 HBW
            cases hlb : la b with
            | false =>
              have HK := HidMk (HKEEP.out (fun _ h => by rw [(hla b).2 h] at hlb; cases hlb))
              rw [hlb] at k1
              clear hla hlb HKEEP HDROP HSET ho
              go_wp2_with fail
              exact ⟨⟨a + 1, o2, by omega, by go_num, H5, HK⟩, by simp [intOf]; omega⟩
            | true =>
              have HK := HidMk (HDROP.out ho ((hla b).1 hlb))
              rw [hlb] at k1
              clear hla hlb HKEEP HDROP H5 ho
              go_wp2_with fail
              exact ⟨⟨a + 1, _, by omega, by go_num, HSET, HK⟩, by simp [intOf]; omega⟩
          · rw [tt_no ho] at S1
            have HK := HidMk (HKEEP.out (fun h => absurd h ho))
            clear HKEEP HDROP
            generalize needAt st a = xa at d0 S1
            clear CS CA HR C p0 p1 ho
            go_wp2_with fail
            refine S1.out.mono ?_
            rintro e w9 ⟨rfl, hw9⟩
            rw [hw9]
            clear hw9 w9 S1
            go_wp2_with fail
            exact ⟨⟨a + 1, o2, by omega, by go_num, H2, HK⟩, by simp [intOf]; omega⟩
        · obtain rfl : a = st.length := by omega
          have HR2 : Hid (∀ y, y < b + 1 → (o2 y = true ↔ UndoP D st y)) := fun y hy => by
            by_cases e : y = b
            · subst e
              refine HO.out.2.trans ?_
              unfold UndoP
              rw [HX.out]
              refine and_congr_right fun _ => ⟨fun h j hj ho => h j ?_ ho hj, fun h j _ ho hj => h j hj ho⟩
              have := aheadP_from hj
              rw [HNN.out]; exact this
            · rw [HO.out.1 y e]
              exact HL1.out y (by omega)
          clear HO HSET
          go_wp2_with fail
          exact ⟨⟨b + 1, o2, by omega, by go_num, H2, HR2⟩, by simp [intOf]; omega⟩
    · have hltI : ¬ (b : Int) < (st.length : Int) := by omega
      have hbn : b = D.steps.length := by have := HNN.out; omega
      have C : Hid (∀ wq, Below w.heap.size w wq → Calls Tryd.prog 29 #[.agg #[.string D.name, .slice ao D.steps.length cap], .agg (bl l).toArray] wq fun e w' => ∃ v', e = .returned v' ∧ w'.ownsRow wq.heap.size 3 1 v' (nl l D.steps.length).length ((nl l D.steps.length).map nV) ∧ Below wq.heap.size wq w') := CN.out l
      have HLL : Hid (undoL D st = nl l D.steps.length) := HL.out l (fun y hy => HL1.out y (by omega))
      have q := fun (j : Nat) (hj : j < 8) => (H1.out.cell List.mem_cons_self j _ (bl_at l j hj)).1
      have q0 := q 0 (by omega)
      have q1 := q 1 (by omega)
      have q2 := q 2 (by omega)
      have q3 := q 3 (by omega)
      have q4 := q 4 (by omega)
      have q5 := q 5 (by omega)
      have q6 := q 6 (by omega)
      have q7 := q 7 (by omega)
      have HBW : Hid (Below w.heap.size w wr) := H1.out.bel
      clear q HS1 CA CN HL HL1 H1 hbn HR
      go_wp2_with fail
      refine (C.out _ HBW.out).mono ?_
      rintro e w2 ⟨v', rfl, hown, hb2⟩
      have HFIN : Hid (w2.ownsRow w.heap.size 3 1 v' (nl l D.steps.length).length ((nl l D.steps.length).map nV) ∧ Below w.heap.size w w2) := ⟨own_base hown HBW.out.size, HBW.out.trans (hb2.mono HBW.out.size)⟩
      clear hown hb2 C
      go_wp2_with fail
      go_ret
      rw [HLL.out]
      exact ⟨v', rfl, HFIN.out⟩
end Go.Proofs.YtmjnllldjeeigaaDoor

/- The walk of the law's own 'filled'; how long the lists are that are told; numbers that came in, read as data. -/
set_option linter.unusedVariables false
set_option maxRecDepth 100000
namespace Go.Proofs.YtmjnllldjeeigaaDoor
open Go.RowKit CheckMath
open Go.Proofs.YtmjnllldjeeigaaDoor.Nm

theorem two_m9 (n m : Int) : ∀ u ∈ [Value.int .i64 n, Value.int .i64 m], u.oneCell' = true := two_int n m
set_option maxHeartbeats 1600000 in
theorem filled_any (w : World) (B n : Nat) (v : Value) (xs : List Value) (hown : w.ownsRow B 3 1 v n xs) (hn : n ≤ 4194304) :
    Calls Tryd.prog 14 #[v] w fun e w' => e = .returned (.tuple #[]) ∧ Chg (fun k => v.ownBlock = some k) w w' := by
  obtain ⟨i0, hi, hz0, hz1, hz2⟩ := info_parts infoI
  obtain ⟨ao, cap, rfl, _⟩ := own_form hown
  generalize hV : (Value.slice ao n cap).ownBlock = vb at *
  have HV : Hid ((Value.slice ao n cap).ownBlock = vb) := hV
  have HO : Hid (w.ownsRow B 3 1 (.slice ao n cap) n xs) := hown
  clear hown hV
  go_enter Tryd.func14, Tryd.ntmps14
  go_wp2
  go_loopw [2] (fun i wr => ∃ (k : Nat) (ys : List Value), k ≤ n ∧ i = .int .i64 k ∧ Hid (wr.ownsRow B 3 1 (.slice ao n cap) n ys) ∧ Hid (Chg (fun k => vb = some k) w wr)) (fun i _ => n - (intOf i).toNat)
  case atStart => exact ⟨0, xs, Nat.zero_le _, rfl, HO, Chg.refl _ _⟩
  case round =>
    obtain ⟨k, ys, hk, rfl, HR, HC⟩ := hrel
    by_cases hlt : k < n
    · obtain ⟨_, _, hv, _, h0, hr⟩ := own_form HR.out
      cases hv
      cases ao with
      | none => have := (h0 rfl).1; omega
      | some p =>
        obtain ⟨g, rfl, _, _, hc, hf, _⟩ := hr p rfl
        have hyl : ys.length = n := HR.out.1.trans (Nat.mul_one n)
        have hck := hc k (by omega)
        rw [List.getElem?_eq_getElem (by omega)] at hck
        generalize ys[k]'(by omega) = y at *
        have hfk := hf k
        have i1 : (k : Int) < (n : Int) := by omega
        clear hc hf hr h0
        go_wp2
        refine ⟨⟨k + 1, _, by omega, by go_num, own_set HR.out k _, ?_⟩, by simp [intOf]; omega⟩
        refine HC.out.trans (Chg.mono (chg_set _ _ _) (T := fun k => vb = some k) ?_) (fun _ _ h => h)
        rintro _ _ rfl
        exact HV.out.symm
    · obtain rfl : k = n := by omega
      have hr := HR.out
      go_wp2_with (at_builtin; refine wpList_append_more _ rfl _ _ 26 rfl B 3 i0 (.int .i64 0) 1 8 Tryd.underlying26 hi hz0 hz1 hz2 rfl (by decide) _ _ _ rfl (hr.alloc _) ⟨_, 0, none⟩ 2 2 [.int .i64 (-9), .int .i64 (-9)] rfl rfl (two_new _ _ _ _) (two_int _ _) (by decide) (by unfold maxLen; omega) (by omega) ?_)
      intro g' cap' w5 hown' hat hchg
      have hat2 : Hid (vb = some g' ∨ wr.heap.size < g') := by
        rcases hat with h | h
        · exact Or.inl (HV.out.symm.trans h)
        · refine Or.inr ?_
          have h2 := World.size_alloc wr (.cells #[.int .i64 (-9), .int .i64 (-9)] 3)
          omega
      have HC5 : Hid (Chg (fun j => vb = some j) w w5) := by
        refine (HC.out.trans (chg_below ((Below.refl _ _).alloc (Nat.le_refl _) _)) (fun _ _ h => h)).trans hchg (fun j _ h => ?_)
        exact HV.out.symm.trans h
      obtain ⟨M, hM⟩ : ∃ M, k + 2 = M + 1 := ⟨k + 1, rfl⟩
      have hc5 := hown'.cellAt M (by omega)
      have hf5 := hown'.frozenAt M
      have hl5 := hown'.1
      rw [List.getElem?_eq_getElem (by omega)] at hc5
      generalize (ys ++ [Value.int .i64 (-9), Value.int .i64 (-9)])[M]'(by omega) = y at hc5
      rw [hM]
      have hMn : M ≤ 4194305 := by omega
      have HS : Hid (w.heap.size ≤ wr.heap.size) := HC.out.size
      clear hown' hat hchg hl5 HC hr HR HO
      go_wp2
      refine bodyPost_end (results_none rfl _ _ _) rfl ?_
      refine ⟨rfl, HC5.out.trans (chg_set _ _ _) ?_⟩
      rintro j hj rfl
      rcases hat2.out with h | h
      · exact h
      · have := HS.out
        omega
theorem own_block_ge {w : World} {B t s n : Nat} {v : Value} {xs : List Value} (h : w.ownsRow B t s v n xs) : ∀ g, v.ownBlock = some g → B ≤ g ∧ g < w.heap.size := fun g hg => by
  obtain ⟨ao, cap, rfl, _, _, hr⟩ := own_form h
  cases ao with
  | none => simp [Value.ownBlock] at hg
  | some p =>
    obtain ⟨b, rfl, h1, h2, _⟩ := hr p rfl
    have : b = g := by simpa [Value.ownBlock] using hg
    omega
/-- filled writes into blocks from B on alone. -/
theorem filled_below {W wq : World} {B n : Nat} {v : Value} {xs : List Value} (hb : Below B W wq) (hB : B ≤ wq.heap.size) (hown : wq.ownsRow B 3 1 v n xs) (hn : n ≤ 4194304) :
    Calls Tryd.prog 14 #[v] wq fun e w' => e = .returned (.tuple #[]) ∧ Below B W w' ∧ Chg (fun k => v.ownBlock = some k) wq w' :=
  (filled_any wq B n v xs hown hn).mono (fun e w' ⟨he, hc⟩ => ⟨he, hb.trans (below_chg hc hB (fun k hk hv => by have := (own_block_ge hown k hv).1; omega)), hc⟩)
theorem readyL_len (D : DefD) (st : List Int) : (readyL D st).length ≤ 8 := by
  unfold readyL
  by_cases h : Fine D ∧ FitS D.steps.length st
  · rw [if_pos (tt_yes h)]
    have := nl_len (fun i => tt (ReadyP D st i)) D.steps.length
    have := h.1.few
    omega
  · rw [if_neg (by rw [tt_no h]; simp)]; simp
theorem undoL_len (D : DefD) (st : List Int) : (undoL D st).length ≤ 8 := by
  unfold undoL
  by_cases h : Fine D ∧ FitS D.steps.length st
  · rw [if_pos (tt_yes h)]
    have := nl_len (fun i => tt (UndoP D st i)) D.steps.length
    have := h.1.few
    omega
  · rw [if_neg (by rw [tt_no h]; simp)]; simp
theorem aheadL_len (D : DefD) (i : Int) : (aheadL D i).length ≤ 8 := by
  unfold aheadL
  by_cases h : InD D i
  · rw [if_pos (tt_yes h)]
    have := nl_len (fun j => tt (AheadP D.steps i.toNat j)) D.steps.length
    have := h.1.few
    omega
  · rw [if_neg (by rw [tt_no h]; simp)]; simp
theorem behindL_len (D : DefD) (i : Int) : (behindL D i).length ≤ 8 := by
  unfold behindL
  by_cases h : InD D i
  · rw [if_pos (tt_yes h)]
    have := nl_len (fun b => tt (AheadP D.steps b i.toNat)) D.steps.length
    have := h.1.few
    omega
  · rw [if_neg (by rw [tt_no h]; simp)]; simp
section
open Go.ChangeShapes Go.WideShapes Go.ChangeAt
variable {H : Type} {enc : TypeId × Value → H} {w : World} {n : Nat}
theorem open_needs_b {cs : List Value} {x : DataW H × List MemPlace} (h : DataW.trod enc Tryd.prog w 0 (fun _ => true) true n 26 cs = some x) : ∃ nv l, cs = [nv] ∧ IRow0 w nv l ∧ IDat x.1 l ∧ ∀ i, i < l.length → -9223372036854775808 ≤ needAt l i ∧ needAt l i < 9223372036854775808 := by
  have ci : Tryd.prog.cellsOf 3 = 1 := by kernel_rfl
  rcases Go.Deep.open_slice Tryd.underlying26 h with ⟨hcs, hx⟩ | ⟨a, len, cap, m, n', D, Pl, hcs, _, hl, hm, hmm, hx, hcell⟩
  · exact ⟨_, [], hcs, ⟨none, 0, rfl, Nat.le_refl _, fun _ => rfl, fun j hj => by simp at hj⟩, Or.inl ⟨by rw [hx], rfl⟩, fun i hi => absurd hi (Nat.not_lt_zero _)⟩
  · simp only [if_true] at hmm
    subst hmm
    rw [ci] at hcell
    have each : ∀ i, i < m → ∃ v : Int, w.cell? (a.add i) = some (.int .i64 v) ∧ D i = .lit (.int .i64 v) ∧ (-9223372036854775808 ≤ v ∧ v ≤ 9223372036854775807) := fun i hi => by
      obtain ⟨cs', h1, h2⟩ := hcell i hi
      obtain ⟨v, e1, e2, b2⟩ := DataW.trod_int Tryd.underlying3 h2
      simp only [Prod.mk.injEq] at e2
      refine ⟨v, ?_, e2.1, i64_ok b2⟩
      obtain ⟨_, _, hc⟩ := World.cells?_some h1
      have := hc 0 (by decide)
      rw [e1, Nat.mul_one] at this
      simpa [Addr.add] using this
    obtain ⟨V, hV⟩ := Go.Deep.choose_lt each
    refine ⟨_, (List.range len).map V, hcs, ⟨some a, m, by simp, by simpa using hl, fun h => (by cases h), fun j hj => ?_⟩, Or.inr ⟨(List.range (m - len)).map fun j => D (len + j), ?_⟩, fun i hi => ?_⟩
    · simp at hj
      obtain ⟨b, off, spot⟩ := a
      have hspot : spot = none := by simpa [Addr.add] using World.cell?_spot (hV 0 (by omega)).1
      subst hspot
      have := (hV j (by omega)).1
      rw [add_plain] at this
      refine ⟨b, off, rfl, block_lt_of_cell this, ?_⟩
      rw [this, needAt_map _ _ _ hj]
    · rw [hx, List.map_map]
      show DataW.slice _ _ = _
      congr 1
      apply List.map_congr_left
      intro i hi
      exact (hV i (by have := List.mem_range.1 hi; omega)).2.1
    · simp at hi
      rw [needAt_map _ _ _ hi]
      have := (hV i (by omega)).2.2
      omega
/-- Numbers that came in. -/
theorem ints_in {ts : List TypeId} {ds : List (DataW H)} {base : Nat} {v : Value} {d : DataW H} {p : List MemPlace} (hsz : (DataW.weightsEach Tryd.prog ts ds).all (· ≤ reachBytes) = true) {j : Nat} (ht : ts[j]? = some 26) (hd : ds[j]? = some d)
    (hv : Value.okWide Tryd.prog w .any base 26 v) (h : DataW.Trod enc Tryd.prog w 0 (fun _ => true) true 26 v d p) : ∃ (so : Option Addr) (sc : Nat) (st : List Int), v = .slice so st.length sc ∧ IRow w (.slice so st.length sc) st ∧ st.length * 8 ≤ 140737488355328 ∧ ∀ i, i < st.length → -9223372036854775808 ≤ needAt st i ∧ needAt st i < 9223372036854775808 := by
  obtain ⟨so, n0, sc, rfl⟩ := okWide_slice Tryd.underlying26 hv
  obtain ⟨n, hn⟩ := h
  obtain ⟨nv, l, hcs, hr, hdat, hbb⟩ := open_needs_b hn
  have e : nv = .slice so n0 sc := by simpa [Value.cells] using hcs.symm
  subst e
  have hall : ∀ n, n ∈ d.weights Tryd.prog 26 → n ≤ reachBytes := fun n hn => by
    have := List.all_eq_true.1 hsz _ (DataW.weights_mem_each ht hd n hn)
    simpa using this
  have hr2 := needs_sized hall hdat hr
  obtain ⟨ao, cap, e2, r2⟩ := hr2
  injection e2 with e3 e4 e5
  subst e3 e4 e5
  refine ⟨_, _, l, rfl, ⟨_, _, rfl, r2⟩, needs_ok hall hdat, hbb⟩
end
end Go.Proofs.YtmjnllldjeeigaaDoor
