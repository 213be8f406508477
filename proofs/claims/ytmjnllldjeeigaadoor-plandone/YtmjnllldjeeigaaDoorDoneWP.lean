/- The walk of the law PlanDone. -/
import Derived.Test.YtmjnllldjeeigaaDoorDoneMP
set_option linter.unusedVariables false
set_option maxRecDepth 100000
namespace Go.Proofs.YtmjnllldjeeigaaDoor
open Go.RowKit CheckMath
open Go.Proofs.YtmjnllldjeeigaaDoor.Nm

set_option maxHeartbeats 8000000 in
theorem done_walk (v : Value) (D : DefD) (w : World) (h : DefIn w v D) (h80 : D.steps.length * 80 ≤ 140737488355328) (hok : ∀ s, s ∈ D.steps → StOk s) (hz : SzD D) (so : Option Addr) (sc : Nat) (st : List Int) (hs : IRow w (.slice so st.length sc) st) (h8 : st.length * 8 ≤ 140737488355328)
    (hbs : ∀ i, i < st.length → -9223372036854775808 ≤ needAt st i ∧ needAt st i < 9223372036854775808) (hT : Tabs w) :
    Calls Tryd.prog 6 #[v, .slice so st.length sc] w fun e w' => e = .returned (.bool true) ∧ Below w.heap.size w w' := by
  have HD0 : Hid (DefIn w v D) := h
  have HI0 : Hid (IRow w (.slice so st.length sc) st) := hs
  have HBS : Hid (∀ i, i < st.length → -9223372036854775808 ≤ needAt st i ∧ needAt st i < 9223372036854775808) := hbs
  have HTT : Hid (Tabs w) := hT
  have HOK : Hid ((checkM D).2 = 0 → Fine D) := (checkM_ok D).1
  have CK : Hid (∀ wq, Below w.heap.size w wq → Calls Tryd.prog 21 #[v] wq fun e w' => e = .returned (.tuple #[.int .i64 (checkM D).1, .int .i64 (checkM D).2]) ∧ Below wq.heap.size wq w') := fun wq hq => refCheck_any v D hz wq (HD0.out.below hq)
  obtain ⟨sv, rfl, hd⟩ := h
  obtain ⟨ao, cap, rfl, hcap, _, hlen, hrow⟩ := hd
  obtain ⟨w0, hw0⟩ : ∃ w0, w.alloc (.cells #[.string D.name, .slice ao D.steps.length cap] 24) = w0 := ⟨_, rfl⟩
  have HX : Hid (∀ wq, Below w0.heap.size w0 wq → Below w.heap.size w wq ∧ wq.cell? ⟨w.heap.size, 0, none⟩ = some (.string D.name) ∧ wq.cell? ⟨w.heap.size, 1, none⟩ = some (.slice ao D.steps.length cap) ∧ DefIn wq (.agg #[.string D.name, .slice ao D.steps.length cap]) D ∧ IRow wq (.slice so st.length sc) st ∧ Tabs wq) := fun wq hq => by
    subst hw0
    have k0 : Below w.heap.size w wq := ((Below.refl _ w).alloc (Nat.le_refl _) _).trans (hq.mono (by simp))
    refine ⟨k0, (hq.cell (p := ⟨w.heap.size, 0, none⟩) (by simp)).trans ?_, (hq.cell (p := ⟨w.heap.size, 1, none⟩) (by simp)).trans ?_, HD0.out.below k0, HI0.out.below k0, Utf8Tabs_below HTT.out k0⟩
    · go_simp
    · go_simp
  obtain ⟨hb0, p0, p1, _⟩ := HX.out w0 (Below.refl _ _)
  have C0 := CK.out _ hb0
  clear hrow hs hT hok CK h80 hbs HD0 HI0 HTT
  generalize (checkM D).1 = m1 at *
  generalize (checkM D).2 = m2 at *
  go_enter Tryd.func6, Tryd.ntmps6
  go_wp2_with fail
  refine C0.mono ?_
  rintro e w1 ⟨rfl, hb1⟩
  have HB1 : Hid (Below w0.heap.size w0 w1) := hb1
  clear C0 hb1 p0 p1 hb0
  by_cases hm : m2 = 0
  case neg =>
    have hm' : (m2 != (0 : Int)) = true := by simpa using hm
    obtain ⟨_, _, _, _, _, x8⟩ := HX.out w1 HB1.out
    have L := live_any w1 x8
    clear hm x8
    go_wp2_with fail
    refine L.mono ?_
    rintro e w2 ⟨rfl, hb2⟩
    have HB2 : Hid (Below w.heap.size w w2) := (HX.out w2 (HB1.out.trans (hb2.mono HB1.out.size))).1
    clear L hb2 HB1 HX
    go_wp2_with fail
    go_ret
    exact ⟨rfl, HB2.out⟩
  have HF : Hid (Fine D) := HOK.out hm
  have hm' : (m2 != (0 : Int)) = false := by simpa using hm
  have h8l : D.steps.length ≤ 8 := HF.out.few
  obtain ⟨_, x0, x1, _⟩ := HX.out w1 HB1.out
  have MK := fun wq => make_ints wq D.steps.length h8l
  have o0 : (w1.alloc (.cells (iV (List.replicate D.steps.length 0)).toArray 3)).ownsRow w1.heap.size 3 1 (.slice (some ⟨w1.heap.size, 0, none⟩) D.steps.length D.steps.length) D.steps.length (iV (List.replicate D.steps.length 0)) := by
    have k := own_made w1 (iV (List.replicate D.steps.length 0)) 3 (by simp [iV]; unfold maxLen; omega)
    have e : (iV (List.replicate D.steps.length 0)).length = D.steps.length := by simp [iV]
    rw [e] at k
    exact k
  have HO0 : Hid ((w1.alloc (.cells (iV (List.replicate D.steps.length 0)).toArray 3)).ownsRow w1.heap.size 3 1 (.slice (some ⟨w1.heap.size, 0, none⟩) D.steps.length D.steps.length) D.steps.length (iV (List.replicate D.steps.length 0))) := o0
  clear o0
  have HBB : Hid (Below w1.heap.size w1 (w1.alloc (.cells (iV (List.replicate D.steps.length 0)).toArray 3))) := (Below.refl _ _).alloc (Nat.le_refl _) _
  have HS1 : Hid (w0.heap.size ≤ w1.heap.size) := HB1.out.size
  clear hm HOK
  go_wp2_with fail
  generalize hsb : w1.heap.size = sb at *
  have HSB : Hid (w1.heap.size = sb) := hsb
  clear hsb
  go_loopw [8] (fun i wr => ∃ (r : Nat) (X : List Int), r ≤ D.steps.length ∧ i = .int .i64 (r : Int) ∧ Hid (DoneOk D.steps.length r X) ∧ Hid (wr.ownsRow sb 3 1 (.slice (some ⟨sb, 0, none⟩) D.steps.length D.steps.length) D.steps.length (iV X)) ∧ Hid (Below sb w1 wr)) (fun i _ => D.steps.length - (intOf i).toNat)
  case atStart => exact ⟨0, _, Nat.zero_le _, rfl, done_start _, HO0, HBB⟩
  case round =>
    obtain ⟨r, X, hr, rfl, HD, HR, HB⟩ := hrel
    clear HO0 HBB MK x0 x1
    have HXR : Hid (∀ wq, Below sb w1 wq → Below w0.heap.size w0 wq) := fun wq hq => HB1.out.trans (hq.mono HS1.out)
    obtain ⟨_, x0, x1, x2, x3, x8⟩ := HX.out wr (HXR.out _ HB.out)
    have HXL : Hid (X.length = D.steps.length) := HD.out.1
    by_cases hlt : r < D.steps.length
    · have hltI : (r : Int) < (D.steps.length : Int) := by omega
      have hm0 : 0 < (readyL D X).length := done_ready HF.out HD.out hlt
      have hm8 := readyL_len D X
      have hs : IRow wr (.slice (some ⟨sb, 0, none⟩) X.length D.steps.length) X := by
        refine irow_own (B := sb) ?_ (by have := HXL.out; omega)
        rw [HXL.out]; exact HR.out
      have L := readyTop_any _ D _ _ X wr x2 hs x8
      rw [HXL.out] at L
      clear hs x2 x3 x8
      go_wp2_with fail
      refine L.mono ?_
      rintro e w4 ⟨v4, rfl, ho4, hb4⟩
      obtain ⟨va, vc, rfl, _⟩ := own_form ho4
      have HV4 : Hid (IRow w4 (.slice va (readyL D X).length vc) ((readyL D X).map fun (x : Nat) => (x : Int))) := irowN_own (by omega) ho4
      have HR4 : Hid (w4.ownsRow sb 3 1 (.slice (some ⟨sb, 0, none⟩) D.steps.length D.steps.length) D.steps.length (iV X)) := own_below HR.out hb4
      have HB4 : Hid (Below sb w1 w4) := HB.out.trans (hb4.mono (by have := HB.out.size; have := HSB.out; omega))
      have hmz : ((readyL D X).length == 0) = false := by rw [beq_eq_false_iff_ne]; omega
      have hmzI : (((readyL D X).length : Int) == 0) = false := by rw [beq_eq_false_iff_ne]; omega
      clear L ho4 hb4 x0 x1 HR
      by_cases hp : r < st.length
      · have hpI : (r : Int) < (st.length : Int) := by omega
        obtain ⟨_, _, _, _, x3, _⟩ := HX.out w4 (HXR.out _ HB4.out)
        obtain ⟨_, _, e3, _, _, _, hr3⟩ := x3
        cases e3
        obtain ⟨gs, os, rfl, _, cp⟩ := hr3 r hp
        obtain ⟨bl, bh⟩ := HBS.out r hp
        have PK := pick_any (needAt st r) bl bh (readyL D X).length hm0 (by omega) w4
        clear hr3 bl bh
        generalize needAt st r = pv at *
        go_wp2_with fail
        refine PK.mono ?_
        rintro e w5 ⟨⟨k, hk, rfl⟩, hw⟩
        rw [hw]
        clear hw w5 PK cp
        have HV : Hid (IRow w4 (.slice va (readyL D X).length vc) ((readyL D X).map fun (x : Nat) => (x : Int))) := HV4.out.below (Below.refl _ _)
        obtain ⟨x, hx⟩ : ∃ x, (readyL D X)[k]'hk = x := ⟨_, rfl⟩
        obtain ⟨hx1, hx2, _⟩ := (ready_iff HF.out (done_fit HD.out) x).1 (by rw [← hx]; exact List.getElem_mem _)
        obtain ⟨_, _, ev, _, _, _, hrv⟩ := HV.out
        injection ev with ev1 ev2 ev3
        subst ev1
        clear ev2 ev3
        obtain ⟨gv, ov, rfl, _, cv⟩ := hrv k (by simpa using hk)
        rw [needAt_cast hk, hx] at cv
        have hsl : (iV X).length = D.steps.length := by rw [iV_len]; exact HD.out.1
        have cs := HR4.out.cellAt x (by omega)
        have fs := HR4.out.frozenAt x
        have cs2 : w4.cell? ⟨sb, x, none⟩ = some (.int .i64 0) := by
          rw [cs, iV_at X x (by rw [HD.out.1]; exact hx1), hx2]
        have HN : Hid (DoneOk D.steps.length (r + 1) (X.set x 2)) := done_next HD.out hx1 hx2
        have HRN : Hid ((w4.setCell ⟨sb, x, none⟩ (.int .i64 2)).ownsRow sb 3 1 (.slice (some ⟨sb, 0, none⟩) D.steps.length D.steps.length) D.steps.length (iV (X.set x 2))) := by
          have o := own_set HR4.out x (.int .i64 2)
          rw [iV_set] at o
          exact o
        have HBN : Hid (Below sb w1 (w4.setCell ⟨sb, x, none⟩ (.int .i64 2))) := HB4.out.trans (below_chg (chg_set _ _ _) (by have := HB4.out.size; have := HSB.out; omega) (fun k hk e => by simp only at e; omega))
        have hxI : ¬ (D.steps.length : Int) ≤ (x : Int) := by omega
        have hxI2 : (x : Int) < (D.steps.length : Int) := by omega
        have hkI : (k : Int) < ((readyL D X).length : Int) := by omega
        clear hx hrv HV HV4 HR4 HB4 HD HB hsl cs hx2 hx1
        generalize (readyL D X).length = ml at *
        go_wp2
        exact ⟨⟨r + 1, X.set x 2, by omega, by go_num, HN, HRN, HBN⟩, by simp [intOf]; omega⟩
      · have hpI : ¬ (r : Int) < (st.length : Int) := by omega
        obtain ⟨k, hk, hk0⟩ : ∃ k, k < (readyL D X).length ∧ k = 0 := ⟨0, hm0, rfl⟩
        have HV : Hid (IRow w4 (.slice va (readyL D X).length vc) ((readyL D X).map fun (x : Nat) => (x : Int))) := HV4.out.below (Below.refl _ _)
        obtain ⟨x, hx⟩ : ∃ x, (readyL D X)[k]'hk = x := ⟨_, rfl⟩
        obtain ⟨hx1, hx2, _⟩ := (ready_iff HF.out (done_fit HD.out) x).1 (by rw [← hx]; exact List.getElem_mem _)
        obtain ⟨_, _, ev, _, _, _, hrv⟩ := HV.out
        injection ev with ev1 ev2 ev3
        subst ev1
        clear ev2 ev3
        obtain ⟨gv, ov, rfl, _, cv⟩ := hrv k (by simpa using hk)
        rw [needAt_cast hk, hx, hk0, Nat.add_zero] at cv
        clear hk0
        have hsl : (iV X).length = D.steps.length := by rw [iV_len]; exact HD.out.1
        have cs := HR4.out.cellAt x (by omega)
        have fs := HR4.out.frozenAt x
        have cs2 : w4.cell? ⟨sb, x, none⟩ = some (.int .i64 0) := by
          rw [cs, iV_at X x (by rw [HD.out.1]; exact hx1), hx2]
        have HN : Hid (DoneOk D.steps.length (r + 1) (X.set x 2)) := done_next HD.out hx1 hx2
        have HRN : Hid ((w4.setCell ⟨sb, x, none⟩ (.int .i64 2)).ownsRow sb 3 1 (.slice (some ⟨sb, 0, none⟩) D.steps.length D.steps.length) D.steps.length (iV (X.set x 2))) := by
          have o := own_set HR4.out x (.int .i64 2)
          rw [iV_set] at o
          exact o
        have HBN : Hid (Below sb w1 (w4.setCell ⟨sb, x, none⟩ (.int .i64 2))) := HB4.out.trans (below_chg (chg_set _ _ _) (by have := HB4.out.size; have := HSB.out; omega) (fun k hk e => by simp only at e; omega))
        have hxI : ¬ (D.steps.length : Int) ≤ (x : Int) := by omega
        have hxI2 : (x : Int) < (D.steps.length : Int) := by omega
        have hkI : (k : Int) < ((readyL D X).length : Int) := by omega
        clear hx hrv HV HV4 HR4 HB4 HD HB hsl cs hx2 hx1
        generalize (readyL D X).length = ml at *
        go_wp2
        exact ⟨⟨r + 1, X.set x 2, by omega, by go_num, HN, HRN, HBN⟩, by simp [intOf]; omega⟩
    · have hltI : ¬ (r : Int) < (D.steps.length : Int) := by omega
      obtain rfl : r = D.steps.length := by omega
      have hm0 : (readyL D X).length = 0 := done_end HF.out HD.out
      have L := live_any wr x8
      clear x2 x3 x8
      go_wp2_with fail
      refine L.mono ?_
      rintro e w4 ⟨rfl, hb4⟩
      have HB4 : Hid (Below sb w1 w4) := HB.out.trans (hb4.mono (by have := HB.out.size; have := HSB.out; omega))
      have HR4 : Hid (w4.ownsRow sb 3 1 (.slice (some ⟨sb, 0, none⟩) D.steps.length D.steps.length) D.steps.length (iV X)) := own_below HR.out hb4
      clear L hb4 HR HB x0 x1
      obtain ⟨_, x0, x1, x2, x3, x8⟩ := HX.out w4 (HXR.out _ HB4.out)
      have hs : IRow w4 (.slice (some ⟨sb, 0, none⟩) X.length D.steps.length) X := by
        refine irow_own (B := sb) ?_ (by have := HXL.out; omega)
        rw [HXL.out]; exact HR4.out
      have L := readyTop_any _ D _ _ X w4 x2 hs x8
      rw [HXL.out] at L
      clear hs x2 x3 x8 HR4
      go_wp2_with fail
      refine L.mono ?_
      rintro e w5 ⟨v5, rfl, ho5, hb5⟩
      obtain ⟨va, vc, rfl, _⟩ := own_form ho5
      have HB5 : Hid (Below w.heap.size w w5) := (HX.out w5 (HXR.out _ (HB4.out.trans (hb5.mono (by have := HB4.out.size; have := HSB.out; omega))))).1
      rw [hm0]
      clear L ho5 hb5 HB4 x0 x1
      go_wp2_with fail
      go_ret
      exact ⟨rfl, HB5.out⟩
end Go.Proofs.YtmjnllldjeeigaaDoor
