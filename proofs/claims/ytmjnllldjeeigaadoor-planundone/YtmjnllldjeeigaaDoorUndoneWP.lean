/- The walk of the law PlanUndone. -/
import Derived.Test.YtmjnllldjeeigaaDoorDoneMP
set_option linter.unusedVariables false
set_option maxRecDepth 100000
namespace Go.Proofs.YtmjnllldjeeigaaDoor
open Go.RowKit CheckMath
open Go.Proofs.YtmjnllldjeeigaaDoor.Nm

set_option maxHeartbeats 8000000 in
theorem undone_walk (v : Value) (D : DefD) (w : World) (h : DefIn w v D) (h80 : D.steps.length * 80 ≤ 140737488355328) (hok : ∀ s, s ∈ D.steps → StOk s) (hz : SzD D) (so : Option Addr) (sc : Nat) (st : List Int) (hs : IRow w (.slice so st.length sc) st) (h8 : st.length * 8 ≤ 140737488355328)
    (hbs : ∀ i, i < st.length → -9223372036854775808 ≤ needAt st i ∧ needAt st i < 9223372036854775808) (so2 : Option Addr) (sc2 : Nat) (st2 : List Int) (hs2 : IRow w (.slice so2 st2.length sc2) st2) (h82 : st2.length * 8 ≤ 140737488355328)
    (hbs2 : ∀ i, i < st2.length → -9223372036854775808 ≤ needAt st2 i ∧ needAt st2 i < 9223372036854775808) (hT : Tabs w) :
    Calls Tryd.prog 7 #[v, .slice so st.length sc, .slice so2 st2.length sc2] w fun e w' => e = .returned (.bool true) ∧ Below w.heap.size w w' := by
  have HD0 : Hid (DefIn w v D) := h
  have HI0 : Hid (IRow w (.slice so st.length sc) st) := hs
  have HBS : Hid (∀ i, i < st.length → -9223372036854775808 ≤ needAt st i ∧ needAt st i < 9223372036854775808) := hbs
  have HI2 : Hid (IRow w (.slice so2 st2.length sc2) st2) := hs2
  have HBS2 : Hid (∀ i, i < st2.length → -9223372036854775808 ≤ needAt st2 i ∧ needAt st2 i < 9223372036854775808) := hbs2
  have HTT : Hid (Tabs w) := hT
  have HOK : Hid ((checkM D).2 = 0 → Fine D) := (checkM_ok D).1
  have CK : Hid (∀ wq, Below w.heap.size w wq → Calls Tryd.prog 21 #[v] wq fun e w' => e = .returned (.tuple #[.int .i64 (checkM D).1, .int .i64 (checkM D).2]) ∧ Below wq.heap.size wq w') := fun wq hq => refCheck_any v D hz wq (HD0.out.below hq)
  obtain ⟨sv, rfl, hd⟩ := h
  obtain ⟨ao, cap, rfl, hcap, _, hlen, hrow⟩ := hd
  obtain ⟨w0, hw0⟩ : ∃ w0, w.alloc (.cells #[.string D.name, .slice ao D.steps.length cap] 24) = w0 := ⟨_, rfl⟩
  have HX : Hid (∀ wq, Below w0.heap.size w0 wq → Below w.heap.size w wq ∧ wq.cell? ⟨w.heap.size, 0, none⟩ = some (.string D.name) ∧ wq.cell? ⟨w.heap.size, 1, none⟩ = some (.slice ao D.steps.length cap) ∧ DefIn wq (.agg #[.string D.name, .slice ao D.steps.length cap]) D ∧ IRow wq (.slice so st.length sc) st ∧ IRow wq (.slice so2 st2.length sc2) st2 ∧ Tabs wq) := fun wq hq => by
    subst hw0
    have k0 : Below w.heap.size w wq := ((Below.refl _ w).alloc (Nat.le_refl _) _).trans (hq.mono (by simp))
    refine ⟨k0, (hq.cell (p := ⟨w.heap.size, 0, none⟩) (by simp)).trans ?_, (hq.cell (p := ⟨w.heap.size, 1, none⟩) (by simp)).trans ?_, HD0.out.below k0, HI0.out.below k0, HI2.out.below k0, Utf8Tabs_below HTT.out k0⟩
    · go_simp
    · go_simp
  obtain ⟨hb0, p0, p1, _⟩ := HX.out w0 (Below.refl _ _)
  have C0 := CK.out _ hb0
  clear hrow hs hs2 hT hok CK h80 hbs hbs2 HD0 HI0 HI2 HTT
  generalize (checkM D).1 = m1 at *
  generalize (checkM D).2 = m2 at *
  go_enter Tryd.func7, Tryd.ntmps7
  go_wp2_with fail
  refine C0.mono ?_
  rintro e w1 ⟨rfl, hb1⟩
  have HB1 : Hid (Below w0.heap.size w0 w1) := hb1
  clear C0 hb1 p0 p1 hb0
  by_cases hm : m2 = 0
  case neg =>
    have hm' : (m2 != (0 : Int)) = true := by simpa using hm
    obtain ⟨_, _, _, _, _, _, x8⟩ := HX.out w1 HB1.out
    have L := live_any w1 x8
    clear hm x8
    go_wp2_with fail
    refine L.mono ?_
    rintro e w2 ⟨rfl, hb2⟩
    have HB2 : Hid (Below w.heap.size w w2) := (HX.out w2 (HB1.out.trans (hb2.mono HB1.out.size))).1
    clear L hb2 HB1 HX
    go_wp2_with fail
    go_ret
    exact ⟨rfl, HB2.out⟩
  have HF : Hid (Fine D) := HOK.out hm
  have hm' : (m2 != (0 : Int)) = false := by simpa using hm
  have h8l : D.steps.length ≤ 8 := HF.out.few
  obtain ⟨_, x0, x1, _⟩ := HX.out w1 HB1.out
  have MK := fun wq => make_ints wq D.steps.length h8l
  have o0 : (w1.alloc (.cells (iV (List.replicate D.steps.length 0)).toArray 3)).ownsRow w1.heap.size 3 1 (.slice (some ⟨w1.heap.size, 0, none⟩) D.steps.length D.steps.length) D.steps.length (iV (List.replicate D.steps.length 0)) := by
    have k := own_made w1 (iV (List.replicate D.steps.length 0)) 3 (by simp [iV]; unfold maxLen; omega)
    have e : (iV (List.replicate D.steps.length 0)).length = D.steps.length := by simp [iV]
    rw [e] at k
    exact k
  have HO0 : Hid ((w1.alloc (.cells (iV (List.replicate D.steps.length 0)).toArray 3)).ownsRow w1.heap.size 3 1 (.slice (some ⟨w1.heap.size, 0, none⟩) D.steps.length D.steps.length) D.steps.length (iV (List.replicate D.steps.length 0))) := o0
  clear o0
  have HBB : Hid (Below w1.heap.size w1 (w1.alloc (.cells (iV (List.replicate D.steps.length 0)).toArray 3))) := (Below.refl _ _).alloc (Nat.le_refl _) _
  have HS1 : Hid (w0.heap.size ≤ w1.heap.size) := HB1.out.size
  clear hm HOK
  go_wp2_with fail
  generalize hsb : w1.heap.size = sb at *
  have HSB : Hid (w1.heap.size = sb) := hsb
  clear hsb
  go_loopw [10, 11] (fun lv i wr => ∃ (k l : Nat) (X : List Int), k ≤ D.steps.length ∧ lv = .int .i64 (l : Int) ∧ i = .int .i64 (k : Int) ∧ Hid (LaidOk D.steps.length k l X) ∧ Hid (wr.ownsRow sb 3 1 (.slice (some ⟨sb, 0, none⟩) D.steps.length D.steps.length) D.steps.length (iV X)) ∧ Hid (Below sb w1 wr)) (fun _ i _ => D.steps.length - (intOf i).toNat)
  case atStart => exact ⟨0, 0, _, Nat.zero_le _, rfl, rfl, laid_start _, HO0, HBB⟩
  case round =>
    obtain ⟨k, l, X, hk, rfl, rfl, HL, HR, HB⟩ := hrel
    clear HO0 HBB MK x0 x1
    have HXR : Hid (∀ wq, Below sb w1 wq → Below w0.heap.size w0 wq) := fun wq hq => HB1.out.trans (hq.mono HS1.out)
    have HXL : Hid (X.length = D.steps.length) := HL.out.1.1
    have hl8 : l ≤ 8 := by
      have := HL.out.2.2
      have h2 := List.countP_le_length (p := opn) (l := X)
      have := HXL.out
      omega
    by_cases hlt : k < D.steps.length
    · have hltI : (k : Int) < (D.steps.length : Int) := by omega
      have cs : wr.cell? ⟨sb, k, none⟩ = some (.int .i64 0) := by
        rw [HR.out.cellAt k (by omega), iV_at X k (by rw [HXL.out]; exact hlt), HL.out.2.1 k (Nat.le_refl _) hlt]
      have fs := HR.out.frozenAt k
      by_cases hp : k < st.length
      · have hpI : (k : Int) < (st.length : Int) := by omega
        obtain ⟨_, _, _, _, x3, _⟩ := HX.out wr (HXR.out _ HB.out)
        obtain ⟨_, _, e3, _, _, _, hr3⟩ := x3
        cases e3
        obtain ⟨gs, os, rfl, _, cp⟩ := hr3 k hp
        obtain ⟨bl, bh⟩ := HBS.out k hp
        have PK := pick_any (needAt st k) bl bh 6 (by decide) (by decide) wr
        clear hr3 bl bh
        generalize needAt st k = pv at *
        go_wp2_with fail
        refine PK.mono ?_
        rintro e w5 ⟨⟨z0, hz0, rfl⟩, hw⟩
        rw [hw]
        clear hw w5 PK cp
        obtain ⟨z, hz⟩ : ∃ z : Int, (z0 : Int) = z := ⟨_, rfl⟩
        have HLK : Hid (LaidOk D.steps.length (k + 1) (l + if opn z = true then 1 else 0) (X.set k z)) := laid_next HL.out hlt z (by omega) (by omega)
        have HR2 : Hid ((wr.setCell ⟨sb, k, none⟩ (.int .i64 z)).ownsRow sb 3 1 (.slice (some ⟨sb, 0, none⟩) D.steps.length D.steps.length) D.steps.length (iV (X.set k z))) := by
          have o := own_set HR.out k (.int .i64 z)
          rw [iV_set] at o
          exact o
        have HB2 : Hid (Below sb w1 (wr.setCell ⟨sb, k, none⟩ (.int .i64 z))) := HB.out.trans (below_chg (chg_set _ _ _) (by have := HB.out.size; have := HSB.out; omega) (fun k hk e => by simp only at e; omega))
        rw [hz]
        clear HL HR HB hz hz0
        by_cases hz1 : z = 1
        · have z1 : (z == 1) = true := by simpa using hz1
          have o1 : opn z = true := by rw [hz1]; rfl
          have HLN : Hid (LaidOk D.steps.length (k + 1) (l + 1) (X.set k z)) := by
            have x := HLK.out
            rw [o1, if_pos rfl] at x
            exact x
          clear hz1
          clear o1 HLK
          go_wp2_with fail
          exact ⟨⟨k + 1, l + 1, (X.set k z), by omega, by go_num, by go_num, HLN, HR2, HB2⟩, by simp [intOf]; omega⟩
        · have z1 : (z == 1) = false := by simpa using hz1
          by_cases hz2 : z = 2
          · have z2 : (z == 2) = true := by simpa using hz2
            have o1 : opn z = true := by rw [hz2]; rfl
            have HLN : Hid (LaidOk D.steps.length (k + 1) (l + 1) (X.set k z)) := by
              have x := HLK.out
              rw [o1, if_pos rfl] at x
              exact x
            clear hz1 hz2
            clear o1 HLK
            go_wp2_with fail
            exact ⟨⟨k + 1, l + 1, (X.set k z), by omega, by go_num, by go_num, HLN, HR2, HB2⟩, by simp [intOf]; omega⟩
          · have z2 : (z == 2) = false := by simpa using hz2
            have o1 : opn z = false := by unfold opn; rw [z1, z2]; rfl
            have HLN : Hid (LaidOk D.steps.length (k + 1) l (X.set k z)) := by
              have x := HLK.out
              rw [o1, if_neg (by decide), Nat.add_zero] at x
              exact x
            clear hz1 hz2
            clear o1 HLK
            go_wp2_with fail
            exact ⟨⟨k + 1, l, (X.set k z), by omega, rfl, by go_num, HLN, HR2, HB2⟩, by simp [intOf]; omega⟩
      · have hpI : ¬ (k : Int) < (st.length : Int) := by omega
        have HR2 : Hid (wr.ownsRow sb 3 1 (.slice (some ⟨sb, 0, none⟩) D.steps.length D.steps.length) D.steps.length (iV X)) := HR
        have HB2 : Hid (Below sb w1 wr) := HB
        have HLN : Hid (LaidOk D.steps.length (k + 1) l X) := ⟨HL.out.1, fun i h1 h2 => HL.out.2.1 i (by omega) h2, HL.out.2.2⟩
        clear HL HR HB
        go_wp2_with fail
        exact ⟨⟨k + 1, l, X, by omega, rfl, by go_num, HLN, HR2, HB2⟩, by simp [intOf]; omega⟩
    · have hltI : ¬ (k : Int) < (D.steps.length : Int) := by omega
      obtain rfl : k = D.steps.length := by omega
      have HU0 : Hid (UndOk D.steps.length l X) := laid_end HL.out
      have HR0 : Hid (wr.ownsRow sb 3 1 (.slice (some ⟨sb, 0, none⟩) D.steps.length D.steps.length) D.steps.length (iV X)) := HR
      have HB0 : Hid (Below sb w1 wr) := HB
      clear HL HR HB HXL
      go_wp2_with fail
      go_loopw [10, 12] (fun lv i wr => ∃ (l r : Nat) (X : List Int), l + r ≤ 8 ∧ lv = .int .i64 (l : Int) ∧ i = .int .i64 (r : Int) ∧ Hid (UndOk D.steps.length l X) ∧ Hid (wr.ownsRow sb 3 1 (.slice (some ⟨sb, 0, none⟩) D.steps.length D.steps.length) D.steps.length (iV X)) ∧ Hid (Below sb w1 wr)) (fun lv _ _ => (intOf lv).toNat)
      case atStart => exact ⟨l, 0, X, by omega, rfl, rfl, HU0, HR0, HB0⟩
      case round =>
        clear HU0 HR0 HB0 hl8
        obtain ⟨l, r, X, hlr, rfl, rfl, HU, HR, HB⟩ := hrel
        obtain ⟨_, x0, x1, x2, x3, x4, x8⟩ := HX.out wr (HXR.out _ HB.out)
        have HXL : Hid (X.length = D.steps.length) := HU.out.1.1
        by_cases hlt : 0 < l
        · have hltI : (0 : Int) < (l : Int) := by omega
          have hm0 : 0 < (undoL D X).length := undo_some HF.out HU.out hlt
          have hm8 := undoL_len D X
          have hs : IRow wr (.slice (some ⟨sb, 0, none⟩) X.length D.steps.length) X := by
            refine irow_own (B := sb) ?_ (by have := HXL.out; omega)
            rw [HXL.out]; exact HR.out
          have L := undoTop_any _ D _ _ X wr x2 hs x8
          rw [HXL.out] at L
          clear hs x2 x3 x4 x8
          go_wp2_with fail
          refine L.mono ?_
          rintro e w4 ⟨v4, rfl, ho4, hb4⟩
          obtain ⟨va, vc, rfl, _⟩ := own_form ho4
          have HV4 : Hid (IRow w4 (.slice va (undoL D X).length vc) ((undoL D X).map fun (x : Nat) => (x : Int))) := irowN_own (by omega) ho4
          have HR4 : Hid (w4.ownsRow sb 3 1 (.slice (some ⟨sb, 0, none⟩) D.steps.length D.steps.length) D.steps.length (iV X)) := own_below HR.out hb4
          have HB4 : Hid (Below sb w1 w4) := HB.out.trans (hb4.mono (by have := HB.out.size; have := HSB.out; omega))
          have hmz : ((undoL D X).length == 0) = false := by rw [beq_eq_false_iff_ne]; omega
          have hmzI : (((undoL D X).length : Int) == 0) = false := by rw [beq_eq_false_iff_ne]; omega
          clear L ho4 hb4 x0 x1 HR
          by_cases hp : r < st2.length
          · have hpI : (r : Int) < (st2.length : Int) := by omega
            obtain ⟨_, _, _, _, _, x4, _⟩ := HX.out w4 (HXR.out _ HB4.out)
            obtain ⟨_, _, e3, _, _, _, hr3⟩ := x4
            cases e3
            obtain ⟨gs, os, rfl, _, cp⟩ := hr3 r hp
            obtain ⟨bl, bh⟩ := HBS2.out r hp
            have PK := pick_any (needAt st2 r) bl bh (undoL D X).length hm0 (by omega) w4
            clear hr3 bl bh
            generalize needAt st2 r = pv at *
            go_wp2_with fail
            refine PK.mono ?_
            rintro e w5 ⟨⟨k, hk, rfl⟩, hw⟩
            rw [hw]
            clear hw w5 PK cp
            have HV : Hid (IRow w4 (.slice va (undoL D X).length vc) ((undoL D X).map fun (x : Nat) => (x : Int))) := HV4.out.below (Below.refl _ _)
            obtain ⟨x, hx⟩ : ∃ x, (undoL D X)[k]'hk = x := ⟨_, rfl⟩
            obtain ⟨hx1, hx2, hx3⟩ := (undo_iff HF.out HU.out.1 x).1 (by rw [← hx]; exact List.getElem_mem _)
            obtain ⟨_, _, ev, _, _, _, hrv⟩ := HV.out
            injection ev with ev1 ev2 ev3
            subst ev1
            clear ev2 ev3
            obtain ⟨gv, ov, rfl, hgv, cv⟩ := hrv k (by simpa using hk)
            rw [needAt_cast hk, hx] at cv
            have hXl : X.length = D.steps.length := HU.out.1.1
            have hsl : (iV X).length = D.steps.length := by rw [iV_len]; exact hXl
            obtain ⟨m, rfl, hUm⟩ := undo_next HU.out hx1 hx2
            have HN : Hid (UndOk D.steps.length m (X.set x 5)) := hUm
            have HNB : Hid (∀ y, y ∈ behindL D (x : Int) → y < D.steps.length ∧ ¬ OpenS (needAt X y)) := fun y hy => by
              obtain ⟨y1, y2⟩ := (behind_iff HF.out hx1 y).1 hy
              exact ⟨y1, hx3 y y2⟩
            have HRC : Hid (∀ wq, Below w4.heap.size w4 wq → wq.ownsRow sb 3 1 (.slice (some ⟨sb, 0, none⟩) D.steps.length D.steps.length) D.steps.length (iV X) ∧ Below sb w1 wq ∧ wq.cell? ⟨gv, ov + k, none⟩ = some (.int .i64 (x : Int))) := fun wq hq => ⟨own_below HR4.out hq, HB4.out.trans (hq.mono (by have := HB4.out.size; have := HSB.out; omega)), (hq.cell (p := ⟨gv, ov + k, none⟩) hgv).trans cv⟩
            have HAT : Hid (∀ wq : World, wq.ownsRow sb 3 1 (.slice (some ⟨sb, 0, none⟩) D.steps.length D.steps.length) D.steps.length (iV X) → ∀ y, y < D.steps.length → wq.cell? ⟨sb, y, none⟩ = some (.int .i64 (needAt X y)) ∧ wq.frozen? ⟨sb, y, none⟩ = false) := fun wq ho y hy => by
              refine ⟨?_, ho.frozenAt y⟩
              rw [ho.cellAt y (by omega), iV_at X y (by omega)]
            have HST : Hid (∀ wq : World, wq.ownsRow sb 3 1 (.slice (some ⟨sb, 0, none⟩) D.steps.length D.steps.length) D.steps.length (iV X) → Below sb w1 wq → (wq.setCell ⟨sb, x, none⟩ (.int .i64 5)).ownsRow sb 3 1 (.slice (some ⟨sb, 0, none⟩) D.steps.length D.steps.length) D.steps.length (iV (X.set x 5)) ∧ Below sb w1 (wq.setCell ⟨sb, x, none⟩ (.int .i64 5))) := fun wq ho hb => by
              have o := own_set ho x (.int .i64 5)
              rw [iV_set] at o
              exact ⟨o, hb.trans (below_chg (chg_set _ _ _) (by have := hb.size; have := HSB.out; omega) (fun k hk e => by simp only at e; omega))⟩
            obtain ⟨cs, fs⟩ := HAT.out w4 HR4.out x hx1
            have hxI : ¬ (D.steps.length : Int) ≤ (x : Int) := by omega
            have hxI2 : (x : Int) < (D.steps.length : Int) := by omega
            have hkI : (k : Int) < ((undoL D X).length : Int) := by omega
            obtain ⟨_, x0, x1, x2, _, _, x8⟩ := HX.out w4 (HXR.out _ HB4.out)
            have HCB : Hid (Calls Tryd.prog 10 #[.agg #[.string D.name, .slice ao D.steps.length cap], .int .i64 (x : Int)] w4.drew fun e w' => RowOf w4.drew (behindL D (x : Int)) e w') := behind_any _ D (x : Int) w4.drew (x2.below (Below.refl _ _).drew) (Utf8Tabs_below x8 (Below.refl _ _).drew)
            have CB2 : Hid (Calls Tryd.prog 10 #[.agg #[.string D.name, .slice ao D.steps.length cap], .int .i64 (x : Int)] w4.drew fun e w' => ∃ v, e = .returned v ∧ w'.cell? ⟨w.heap.size, 0, none⟩ = some (.string D.name) ∧ w'.cell? ⟨w.heap.size, 1, none⟩ = some (.slice ao D.steps.length cap) ∧ w'.cell? ⟨gv, ov + k, none⟩ = some (.int .i64 (x : Int)) ∧ Hid (IRow w' v ((behindL D (x : Int)).map fun (x : Nat) => (x : Int))) ∧ Hid (Below w4.heap.size w4 w')) := HCB.out.mono fun e w' ⟨v, he, ho, hb⟩ => by
              have hb2 : Below w4.heap.size w4 w' := (Below.refl _ _).drew.trans hb
              obtain ⟨_, y0, y1, _⟩ := HX.out w' (HXR.out _ (HRC.out w' hb2).2.1)
              exact ⟨v, he, y0, y1, (HRC.out w' hb2).2.2, irowN_own (by have := behindL_len D (x : Int); omega) ho, hb2⟩
            rcases hx2 with hq | hq
            case' inl => have q1 : (needAt X x == 1) = true := by simpa using hq
            case' inl => have q3 : (needAt X x != 1) = false := by simpa using hq
            case' inr => have q1 : (needAt X x != 1) = true := by rw [hq]; decide
            case' inr => have q3 : (needAt X x != 2) = false := by rw [hq]; decide
            all_goals (
              clear hx hrv HV HV4 HR4 HB4 HU HB hsl hXl hx1 hx3 hUm hq x2 x8 HCB
              generalize (undoL D X).length = ml at *
              generalize needAt X x = zx at *
              go_wp2_with fail
              clear cs fs q1 q3
              go_region_held3 (fun w' => w'.cell? ⟨w.heap.size, 0, none⟩ = some (.string D.name) ∧ w'.cell? ⟨w.heap.size, 1, none⟩ = some (.slice ao D.steps.length cap) ∧ w'.cell? ⟨gv, ov + k, none⟩ = some (.int .i64 (x : Int))) (go_keep) ((go_at_call 10; refine CB2.out.mono ?_; rintro e w6 ⟨v6, rfl, g0, g1, g2, HI6, HB6⟩))
              clear CB2 x0 x1 g0 g1
              obtain ⟨HR6, HB7, _⟩ := HRC.out w6 HB6.out
              have HR7 : Hid (w6.ownsRow sb 3 1 (.slice (some ⟨sb, 0, none⟩) D.steps.length D.steps.length) D.steps.length (iV X)) := HR6
              have HB8 : Hid (Below sb w1 w6) := HB7
              clear HR6 HB7 HRC HB6
              obtain ⟨ab, cb, rfl, _, _, _, hrb⟩ := HI6.out
              have HRB : Hid (∀ j, j < ((behindL D (x : Int)).map fun (x : Nat) => (x : Int)).length → ∃ g o, ab = some ⟨g, o, none⟩ ∧ g < w6.heap.size ∧ w6.cell? ⟨g, o + j, none⟩ = some (.int .i64 (needAt ((behindL D (x : Int)).map fun (x : Nat) => (x : Int)) j))) := hrb
              have HBL : Hid (((behindL D (x : Int)).map fun (x : Nat) => (x : Int)).length = (behindL D (x : Int)).length) := List.length_map _
              have hb8 := behindL_len D (x : Int)
              clear hrb HI6
              rw [HBL.out] at *
              go_wp2_with fail
              go_loop [16] (fun i => ∃ y : Nat, y ≤ (behindL D (x : Int)).length ∧ i = .int .i64 (y : Int)) (fun i => (behindL D (x : Int)).length - (intOf i).toNat)
              case atStart => exact ⟨0, Nat.zero_le _, rfl⟩
              case round =>
                obtain ⟨y, hy, rfl⟩ := hrel
                by_cases hlt : y < (behindL D (x : Int)).length
                · have hltY : (y : Int) < ((behindL D (x : Int)).length : Int) := by omega
                  obtain ⟨gb, ob, rfl, _, cb1⟩ := HRB.out y (by rw [List.length_map]; exact hlt)
                  rw [needAt_cast hlt] at cb1
                  obtain ⟨b1, b2⟩ := HNB.out _ (List.getElem_mem hlt)
                  obtain ⟨cb2, _⟩ := HAT.out w6 HR7.out _ b1
                  have b3 : (needAt X ((behindL D (x : Int))[y]) == 1) = false := by rw [beq_eq_false_iff_ne]; exact fun e => b2 (Or.inl e)
                  have b4 : (needAt X ((behindL D (x : Int))[y]) == 2) = false := by rw [beq_eq_false_iff_ne]; exact fun e => b2 (Or.inr e)
                  generalize (behindL D (x : Int))[y] = b at *
                  have b5 : (b : Int) < (D.steps.length : Int) := by omega
                  clear HRB HBL HNB HAT HR7 HB8 HST g2 b2
                  generalize needAt X b = zb at *
                  go_wp2
                  exact ⟨⟨y + 1, by omega, by go_num⟩, by simp [intOf]; omega⟩
                · have hltY : ¬ (y : Int) < ((behindL D (x : Int)).length : Int) := by omega
                  obtain ⟨HRN, HBN⟩ := HST.out w6 HR7.out HB8.out
                  have HRN2 : Hid ((w6.setCell ⟨sb, x, none⟩ (.int .i64 5)).ownsRow sb 3 1 (.slice (some ⟨sb, 0, none⟩) D.steps.length D.steps.length) D.steps.length (iV (X.set x 5))) := HRN
                  have HBN2 : Hid (Below sb w1 (w6.setCell ⟨sb, x, none⟩ (.int .i64 5))) := HBN
                  obtain ⟨cs, fs⟩ := HAT.out w6 HR7.out x (by omega)
                  clear HRB HBL HNB HAT HR7 HB8 HST HRN HBN
                  generalize needAt X x = zx at *
                  go_wp2
                  exact ⟨⟨m, r + 1, X.set x 5, by omega, by go_num, by go_num, HN, HRN2, HBN2⟩, by simp [intOf]⟩)
          · have hpI : ¬ (r : Int) < (st2.length : Int) := by omega
            obtain ⟨k, hk, hk0⟩ : ∃ k, k < (undoL D X).length ∧ k = 0 := ⟨0, hm0, rfl⟩
            have HV : Hid (IRow w4 (.slice va (undoL D X).length vc) ((undoL D X).map fun (x : Nat) => (x : Int))) := HV4.out.below (Below.refl _ _)
            obtain ⟨x, hx⟩ : ∃ x, (undoL D X)[k]'hk = x := ⟨_, rfl⟩
            obtain ⟨hx1, hx2, hx3⟩ := (undo_iff HF.out HU.out.1 x).1 (by rw [← hx]; exact List.getElem_mem _)
            obtain ⟨_, _, ev, _, _, _, hrv⟩ := HV.out
            injection ev with ev1 ev2 ev3
            subst ev1
            clear ev2 ev3
            obtain ⟨gv, ov, rfl, hgv, cv⟩ := hrv k (by simpa using hk)
            rw [needAt_cast hk, hx, hk0, Nat.add_zero] at cv
            clear hk0
            have hXl : X.length = D.steps.length := HU.out.1.1
            have hsl : (iV X).length = D.steps.length := by rw [iV_len]; exact hXl
            obtain ⟨m, rfl, hUm⟩ := undo_next HU.out hx1 hx2
            have HN : Hid (UndOk D.steps.length m (X.set x 5)) := hUm
            have HNB : Hid (∀ y, y ∈ behindL D (x : Int) → y < D.steps.length ∧ ¬ OpenS (needAt X y)) := fun y hy => by
              obtain ⟨y1, y2⟩ := (behind_iff HF.out hx1 y).1 hy
              exact ⟨y1, hx3 y y2⟩
            have HRC : Hid (∀ wq, Below w4.heap.size w4 wq → wq.ownsRow sb 3 1 (.slice (some ⟨sb, 0, none⟩) D.steps.length D.steps.length) D.steps.length (iV X) ∧ Below sb w1 wq ∧ wq.cell? ⟨gv, ov, none⟩ = some (.int .i64 (x : Int))) := fun wq hq => ⟨own_below HR4.out hq, HB4.out.trans (hq.mono (by have := HB4.out.size; have := HSB.out; omega)), (hq.cell (p := ⟨gv, ov, none⟩) hgv).trans cv⟩
            have HAT : Hid (∀ wq : World, wq.ownsRow sb 3 1 (.slice (some ⟨sb, 0, none⟩) D.steps.length D.steps.length) D.steps.length (iV X) → ∀ y, y < D.steps.length → wq.cell? ⟨sb, y, none⟩ = some (.int .i64 (needAt X y)) ∧ wq.frozen? ⟨sb, y, none⟩ = false) := fun wq ho y hy => by
              refine ⟨?_, ho.frozenAt y⟩
              rw [ho.cellAt y (by omega), iV_at X y (by omega)]
            have HST : Hid (∀ wq : World, wq.ownsRow sb 3 1 (.slice (some ⟨sb, 0, none⟩) D.steps.length D.steps.length) D.steps.length (iV X) → Below sb w1 wq → (wq.setCell ⟨sb, x, none⟩ (.int .i64 5)).ownsRow sb 3 1 (.slice (some ⟨sb, 0, none⟩) D.steps.length D.steps.length) D.steps.length (iV (X.set x 5)) ∧ Below sb w1 (wq.setCell ⟨sb, x, none⟩ (.int .i64 5))) := fun wq ho hb => by
              have o := own_set ho x (.int .i64 5)
              rw [iV_set] at o
              exact ⟨o, hb.trans (below_chg (chg_set _ _ _) (by have := hb.size; have := HSB.out; omega) (fun k hk e => by simp only at e; omega))⟩
            obtain ⟨cs, fs⟩ := HAT.out w4 HR4.out x hx1
            have hxI : ¬ (D.steps.length : Int) ≤ (x : Int) := by omega
            have hxI2 : (x : Int) < (D.steps.length : Int) := by omega
            have hkI : (k : Int) < ((undoL D X).length : Int) := by omega
            obtain ⟨_, x0, x1, x2, _, _, x8⟩ := HX.out w4 (HXR.out _ HB4.out)
            have HCB : Hid (Calls Tryd.prog 10 #[.agg #[.string D.name, .slice ao D.steps.length cap], .int .i64 (x : Int)] w4.drew fun e w' => RowOf w4.drew (behindL D (x : Int)) e w') := behind_any _ D (x : Int) w4.drew (x2.below (Below.refl _ _).drew) (Utf8Tabs_below x8 (Below.refl _ _).drew)
            have CB2 : Hid (Calls Tryd.prog 10 #[.agg #[.string D.name, .slice ao D.steps.length cap], .int .i64 (x : Int)] w4.drew fun e w' => ∃ v, e = .returned v ∧ w'.cell? ⟨w.heap.size, 0, none⟩ = some (.string D.name) ∧ w'.cell? ⟨w.heap.size, 1, none⟩ = some (.slice ao D.steps.length cap) ∧ w'.cell? ⟨gv, ov, none⟩ = some (.int .i64 (x : Int)) ∧ Hid (IRow w' v ((behindL D (x : Int)).map fun (x : Nat) => (x : Int))) ∧ Hid (Below w4.heap.size w4 w')) := HCB.out.mono fun e w' ⟨v, he, ho, hb⟩ => by
              have hb2 : Below w4.heap.size w4 w' := (Below.refl _ _).drew.trans hb
              obtain ⟨_, y0, y1, _⟩ := HX.out w' (HXR.out _ (HRC.out w' hb2).2.1)
              exact ⟨v, he, y0, y1, (HRC.out w' hb2).2.2, irowN_own (by have := behindL_len D (x : Int); omega) ho, hb2⟩
            rcases hx2 with hq | hq
            case' inl => have q1 : (needAt X x == 1) = true := by simpa using hq
            case' inl => have q3 : (needAt X x != 1) = false := by simpa using hq
            case' inr => have q1 : (needAt X x != 1) = true := by rw [hq]; decide
            case' inr => have q3 : (needAt X x != 2) = false := by rw [hq]; decide
            all_goals (
              clear hx hrv HV HV4 HR4 HB4 HU HB hsl hXl hx1 hx3 hUm hq x2 x8 HCB
              generalize (undoL D X).length = ml at *
              generalize needAt X x = zx at *
              go_wp2_with fail
              clear cs fs q1 q3
              go_region_held3 (fun w' => w'.cell? ⟨w.heap.size, 0, none⟩ = some (.string D.name) ∧ w'.cell? ⟨w.heap.size, 1, none⟩ = some (.slice ao D.steps.length cap) ∧ w'.cell? ⟨gv, ov, none⟩ = some (.int .i64 (x : Int))) (go_keep) ((go_at_call 10; refine CB2.out.mono ?_; rintro e w6 ⟨v6, rfl, g0, g1, g2, HI6, HB6⟩))
              clear CB2 x0 x1 g0 g1
              obtain ⟨HR6, HB7, _⟩ := HRC.out w6 HB6.out
              have HR7 : Hid (w6.ownsRow sb 3 1 (.slice (some ⟨sb, 0, none⟩) D.steps.length D.steps.length) D.steps.length (iV X)) := HR6
              have HB8 : Hid (Below sb w1 w6) := HB7
              clear HR6 HB7 HRC HB6
              obtain ⟨ab, cb, rfl, _, _, _, hrb⟩ := HI6.out
              have HRB : Hid (∀ j, j < ((behindL D (x : Int)).map fun (x : Nat) => (x : Int)).length → ∃ g o, ab = some ⟨g, o, none⟩ ∧ g < w6.heap.size ∧ w6.cell? ⟨g, o + j, none⟩ = some (.int .i64 (needAt ((behindL D (x : Int)).map fun (x : Nat) => (x : Int)) j))) := hrb
              have HBL : Hid (((behindL D (x : Int)).map fun (x : Nat) => (x : Int)).length = (behindL D (x : Int)).length) := List.length_map _
              have hb8 := behindL_len D (x : Int)
              clear hrb HI6
              rw [HBL.out] at *
              go_wp2_with fail
              go_loop [16] (fun i => ∃ y : Nat, y ≤ (behindL D (x : Int)).length ∧ i = .int .i64 (y : Int)) (fun i => (behindL D (x : Int)).length - (intOf i).toNat)
              case atStart => exact ⟨0, Nat.zero_le _, rfl⟩
              case round =>
                obtain ⟨y, hy, rfl⟩ := hrel
                by_cases hlt : y < (behindL D (x : Int)).length
                · have hltY : (y : Int) < ((behindL D (x : Int)).length : Int) := by omega
                  obtain ⟨gb, ob, rfl, _, cb1⟩ := HRB.out y (by rw [List.length_map]; exact hlt)
                  rw [needAt_cast hlt] at cb1
                  obtain ⟨b1, b2⟩ := HNB.out _ (List.getElem_mem hlt)
                  obtain ⟨cb2, _⟩ := HAT.out w6 HR7.out _ b1
                  have b3 : (needAt X ((behindL D (x : Int))[y]) == 1) = false := by rw [beq_eq_false_iff_ne]; exact fun e => b2 (Or.inl e)
                  have b4 : (needAt X ((behindL D (x : Int))[y]) == 2) = false := by rw [beq_eq_false_iff_ne]; exact fun e => b2 (Or.inr e)
                  generalize (behindL D (x : Int))[y] = b at *
                  have b5 : (b : Int) < (D.steps.length : Int) := by omega
                  clear HRB HBL HNB HAT HR7 HB8 HST g2 b2
                  generalize needAt X b = zb at *
                  go_wp2
                  exact ⟨⟨y + 1, by omega, by go_num⟩, by simp [intOf]; omega⟩
                · have hltY : ¬ (y : Int) < ((behindL D (x : Int)).length : Int) := by omega
                  obtain ⟨HRN, HBN⟩ := HST.out w6 HR7.out HB8.out
                  have HRN2 : Hid ((w6.setCell ⟨sb, x, none⟩ (.int .i64 5)).ownsRow sb 3 1 (.slice (some ⟨sb, 0, none⟩) D.steps.length D.steps.length) D.steps.length (iV (X.set x 5))) := HRN
                  have HBN2 : Hid (Below sb w1 (w6.setCell ⟨sb, x, none⟩ (.int .i64 5))) := HBN
                  obtain ⟨cs, fs⟩ := HAT.out w6 HR7.out x (by omega)
                  clear HRB HBL HNB HAT HR7 HB8 HST HRN HBN
                  generalize needAt X x = zx at *
                  go_wp2
                  exact ⟨⟨m, r + 1, X.set x 5, by omega, by go_num, by go_num, HN, HRN2, HBN2⟩, by simp [intOf]⟩)
        · have hltI : ¬ (0 : Int) < (l : Int) := by omega
          obtain rfl : l = 0 := by omega
          have hm0 : (undoL D X).length = 0 := undo_end HF.out HU.out
          have L := live_any wr x8
          clear x2 x3 x4 x8
          go_wp2_with fail
          refine L.mono ?_
          rintro e w4 ⟨rfl, hb4⟩
          have HB4 : Hid (Below sb w1 w4) := HB.out.trans (hb4.mono (by have := HB.out.size; have := HSB.out; omega))
          have HR4 : Hid (w4.ownsRow sb 3 1 (.slice (some ⟨sb, 0, none⟩) D.steps.length D.steps.length) D.steps.length (iV X)) := own_below HR.out hb4
          clear L hb4 HR HB x0 x1
          obtain ⟨_, x0, x1, x2, x3, x4, x8⟩ := HX.out w4 (HXR.out _ HB4.out)
          have hs : IRow w4 (.slice (some ⟨sb, 0, none⟩) X.length D.steps.length) X := by
            refine irow_own (B := sb) ?_ (by have := HXL.out; omega)
            rw [HXL.out]; exact HR4.out
          have L := undoTop_any _ D _ _ X w4 x2 hs x8
          rw [HXL.out] at L
          clear hs x2 x3 x4 x8 HR4
          go_wp2_with fail
          refine L.mono ?_
          rintro e w5 ⟨v5, rfl, ho5, hb5⟩
          obtain ⟨va, vc, rfl, _⟩ := own_form ho5
          have HB5 : Hid (Below w.heap.size w w5) := (HX.out w5 (HXR.out _ (HB4.out.trans (hb5.mono (by have := HB4.out.size; have := HSB.out; omega))))).1
          rw [hm0]
          clear L ho5 hb5 HB4 x0 x1
          go_wp2_with fail
          go_ret
          exact ⟨rfl, HB5.out⟩
end Go.Proofs.YtmjnllldjeeigaaDoor
