/- The walks of same and of CostTells. -/
import Derived.Test.YtaeakednekbekaaDoorRefOf2W
import Derived.Test.YtaeakednekbekaaDoorLiveW
import Derived.Test.YtaeakednekbekaaDoorSameW
import Derived.Test.YtaeakednekbekaaDoorCopyW
set_option linter.unusedVariables false
set_option maxRecDepth 100000
namespace Go.Proofs.YtaeakednekbekaaDoor
open Go.RowKit CheckMath
open Go.Proofs.YtaeakednekbekaaDoor.Nm

/-- A slice that leads to numbers. -/
def NRow (w : World) (v : Value) (L : List Nat) : Prop := ∃ ao cap, v = .slice ao L.length cap ∧ ∀ j, (h : j < L.length) → ∃ g, ao = some ⟨g, 0, none⟩ ∧ w.cell? ⟨g, j, none⟩ = some (.int .i64 (L[j] : Nat))
theorem nrow_own {w : World} {B : Nat} {v : Value} {L : List Nat} (h : w.ownsRow B 3 1 v L.length (L.map nV)) : NRow w v L := by
  obtain ⟨ao, cap, rfl, h1, h2, h3⟩ := own_form h
  refine ⟨ao, cap, rfl, fun j hj => ?_⟩
  cases ao with
  | none => have := (h2 rfl).1; omega
  | some p =>
    obtain ⟨g, rfl, _, k2, k3, _, _⟩ := h3 p rfl
    refine ⟨g, rfl, ?_⟩
    rw [k3 j (by omega)]
    simp [nV, hj]

set_option maxHeartbeats 1600000 in
theorem sameN_true (L : List Nat) (hx : L.length ≤ 1000) (v v2 : Value) (w : World) (h1 : NRow w v L) (h2 : NRow w v2 L) :
    Calls Tryd.prog 11 #[v, v2] w fun e w' => e = .returned (.bool true) ∧ Below w.heap.size w w' := by
  obtain ⟨ao, cap, rfl, hrow⟩ := h1
  obtain ⟨bo, cap2, rfl, hrow2⟩ := h2
  have HR : Hid (∀ j, (h : j < L.length) → ∃ g, ao = some ⟨g, 0, none⟩ ∧ w.cell? ⟨g, j, none⟩ = some (.int .i64 (L[j] : Nat))) := hrow
  have HR2 : Hid (∀ j, (h : j < L.length) → ∃ g, bo = some ⟨g, 0, none⟩ ∧ w.cell? ⟨g, j, none⟩ = some (.int .i64 (L[j] : Nat))) := hrow2
  clear hrow hrow2
  go_enter Tryd.func11, Tryd.ntmps11
  go_wp2
  go_loopw [5] (fun i wr => ∃ k q : Nat, wr = w.drewN q ∧ k ≤ L.length ∧ i = .int .i64 k) (fun i _ => L.length - (intOf i).toNat)
  case atStart => exact ⟨0, 0, rfl, Nat.zero_le _, rfl⟩
  case round =>
    obtain ⟨k, q, rfl, hk, rfl⟩ := hrel
    by_cases hlt : k < L.length
    · obtain ⟨g, rfl, hc1⟩ := HR.out k hlt
      obtain ⟨g2, rfl, hc2⟩ := HR2.out k hlt
      generalize L[k] = y at *
      clear HR HR2
      have i1 : (k : Int) < (L.length : Int) := by omega
      go_wp2
      go_quiet (fail)
      go_wp2
      exact ⟨⟨k + 1, _, rfl, by omega, by go_num⟩, by simp [intOf]; omega⟩
    · clear HR HR2
      have i1 : ¬ (k : Int) < (L.length : Int) := by omega
      go_wp2
      go_ret
      exact ⟨rfl, below_drewN (Below.refl _ _) q⟩

/-- What Of answers. -/
noncomputable def costM (D : DefD) : Nat → Nat := fun j => if (checkM D).2 = 0 then costF (rec5 D.steps) j else 0
noncomputable def errM (D : DefD) : Int := if (checkM D).2 = 0 then 0 else 1
theorem of_any (v : Value) (D : DefD) (w : World) (h : DefIn w v D) (hT : Tabs w) : Calls Tryd.prog 7 #[v] w fun e w' => e = .returned (.tuple #[.agg #[.int .i64 (costM D 0 : Nat), .int .i64 (costM D 1 : Nat), .int .i64 (costM D 2 : Nat), .int .i64 (costM D 3 : Nat), .int .i64 (costM D 4 : Nat)], .int .i64 (errM D)]) ∧ Below w.heap.size w w' := by
  by_cases hc : (checkM D).2 = 0
  · have h := of_good v D w h hT hc
    unfold costM errM
    simp only [if_pos hc]
    exact h
  · have h := of_bad v D w h hT hc
    unfold costM errM
    simp only [if_neg hc]
    exact h
theorem refOf_any (v : Value) (D : DefD) (hz : SzD D) (w : World) (h : DefIn w v D) : Calls Tryd.prog 8 #[v] w fun e w' => e = .returned (.tuple #[.agg #[.int .i64 (costM D 0 : Nat), .int .i64 (costM D 1 : Nat), .int .i64 (costM D 2 : Nat), .int .i64 (costM D 3 : Nat), .int .i64 (costM D 4 : Nat)], .int .i64 (errM D)]) ∧ Below w.heap.size w w' := by
  by_cases hc : (checkM D).2 = 0
  · have h := refOf_good v D hz w h hc
    unfold costM errM
    simp only [if_pos hc]
    exact h
  · have h := refOf_bad v D hz w h hc
    unfold costM errM
    simp only [if_neg hc]
    exact h
theorem ownr_set {B : Nat} {w wr : World} {t : TypeId} {n g cap : Nat} {xs : List Value} {rs : List Res} (h : Has B w (OwnR t 1 (.slice (some ⟨g, 0, none⟩) n cap) n xs :: rs) wr) (j : Nat) (u : Value) : Has B w (OwnR t 1 (.slice (some ⟨g, 0, none⟩) n cap) n (xs.set j u) :: rs) (wr.setCell ⟨g, j, none⟩ u) :=
  h.grow (own_set (h.own List.mem_cons_self) j u) (fun g' hg => Or.inl hg) (by
    have := chg_set wr ⟨g, j, none⟩ u
    refine ⟨this.os, this.tape, this.output, this.size, fun k hk hn => this.block k hk (fun e => hn ?_)⟩
    simp only at e
    simp [Value.ownBlock, e])

set_option maxHeartbeats 8000000 in
theorem costTells_walk (v : Value) (D : DefD) (w : World) (h : DefIn w v D) (h80 : D.steps.length * 80 ≤ 140737488355328) (hok : ∀ s, s ∈ D.steps → StOk s) (hz : SzD D) (hT : Tabs w) :
    Calls Tryd.prog 3 #[v] w fun e w' => e = .returned (.bool true) ∧ Below w.heap.size w w' := by
  have HT : Hid (Tabs w) := hT
  have HDI : Hid (DefIn w v D) := h
  have HSO : Hid (∀ s, s ∈ D.steps → StOk s) := hok
  have HSZ : Hid (SzD D) := hz
  obtain ⟨sv, rfl, hd⟩ := h
  obtain ⟨ao, cap, rfl, hcap, _, hlen, _⟩ := hd
  have HW : Hid (∀ wq, Below (w.alloc (.cells #[.string D.name, .slice ao D.steps.length cap] 24)).heap.size (w.alloc (.cells #[.string D.name, .slice ao D.steps.length cap] 24)) wq → Below w.heap.size w wq ∧ wq.cell? ⟨w.heap.size, 0, none⟩ = some (.string D.name) ∧ wq.cell? ⟨w.heap.size, 1, none⟩ = some (.slice ao D.steps.length cap)) := fun wq hb => box_def wq hb
  have CL : Hid (∀ wq, Below w.heap.size w wq → Calls Tryd.prog 13 #[] wq fun e w' => e = .returned (.bool true) ∧ Below w.heap.size w w') := fun wq hq => (live_any wq (Utf8Tabs_below HT.out hq)).mono (fun e w' ⟨he, hb⟩ => ⟨he, hq.trans (hb.mono hq.size)⟩)
  have CC : Hid (∀ wq, Below w.heap.size w wq → Calls Tryd.prog 6 #[.agg #[.string D.name, .slice ao D.steps.length cap]] wq fun e w' => ∃ sv xs, e = .returned (.agg #[.string D.name, sv]) ∧ xs.map (·.st) = D.steps ∧ Has wq.heap.size wq (rowsRes sv xs) w') := fun wq hq => copied_any _ D wq (HDI.out.below hq) h80 HSO.out
  have CR : Hid (∀ wq, Below w.heap.size w wq → Calls Tryd.prog 8 #[.agg #[.string D.name, .slice ao D.steps.length cap]] wq fun e w' => e = .returned (.tuple #[.agg #[.int .i64 (costM D 0 : Nat), .int .i64 (costM D 1 : Nat), .int .i64 (costM D 2 : Nat), .int .i64 (costM D 3 : Nat), .int .i64 (costM D 4 : Nat)], .int .i64 (errM D)]) ∧ Below wq.heap.size wq w') := fun wq hq => refOf_any _ D HSZ.out wq (HDI.out.below hq)
  have CRN : Hid (∀ wq, Below w.heap.size w wq → Calls Tryd.prog 10 #[.agg #[.string D.name, .slice ao D.steps.length cap]] wq fun e w' => ∃ v', e = .returned v' ∧ w'.ownsRow wq.heap.size 3 1 v' (nbL (namedB D) 4).length ((nbL (namedB D) 4).map nV) ∧ Below wq.heap.size wq w') := fun wq hq => refNamed_any _ D HSZ.out wq (HDI.out.below hq)
  have HX : Hid (∀ (sv : Value) (wq : World), Below w.heap.size w wq → DefIn wq (.agg #[.string D.name, sv]) D → Calls Tryd.prog 7 #[.agg #[.string D.name, sv]] wq fun e w' => e = .returned (.tuple #[.agg #[.int .i64 (costM D 0 : Nat), .int .i64 (costM D 1 : Nat), .int .i64 (costM D 2 : Nat), .int .i64 (costM D 3 : Nat), .int .i64 (costM D 4 : Nat)], .int .i64 (errM D)]) ∧ Below wq.heap.size wq w') := fun sv wq hq hd => of_any _ D wq hd (Utf8Tabs_below HT.out hq)
  have HXN : Hid (∀ (sv : Value) (wq : World), Below w.heap.size w wq → DefIn wq (.agg #[.string D.name, sv]) D → Calls Tryd.prog 9 #[.agg #[.string D.name, sv]] wq fun e w' => ∃ v', e = .returned v' ∧ w'.ownsRow wq.heap.size 3 1 v' (nbL (namedB D) 4).length ((nbL (namedB D) 4).map nV) ∧ Below wq.heap.size wq w') := fun sv wq hq hd => named_any _ D wq hd (Utf8Tabs_below HT.out hq)
  have HY : Hid (∀ (sv : Value) (wq : World), Below w.heap.size w wq → DefIn wq (.agg #[.string D.name, sv]) D → Calls Tryd.prog 12 #[.agg #[.string D.name, sv], .agg #[.string D.name, .slice ao D.steps.length cap]] wq fun e w' => e = .returned (.bool true) ∧ Below wq.heap.size wq w') := fun sv wq hq hd => sameDef_any _ _ D wq hd (HDI.out.below hq)
  have HB0 := Below.refl (w.alloc (.cells #[.string D.name, .slice ao D.steps.length cap] 24)).heap.size (w.alloc (.cells #[.string D.name, .slice ao D.steps.length cap] 24))
  have HLN : Hid ((nbL (namedB D) 4).length ≤ 4) := nbL_len _ _
  clear hT hok hz
  generalize nbL (namedB D) 4 = L at *
  generalize costM D = c at *
  generalize errM D = er at *
  go_enter Tryd.func3, Tryd.ntmps3
  go_wp2_with fail
  generalize (w.alloc (.cells #[.string D.name, .slice ao D.steps.length cap] 24)) = w0 at *
  have HK0 : Hid (Below w.heap.size w w0) := (HW.out _ HB0).1
  clear HB0
  refine (CC.out _ HK0.out).mono ?_
  rintro e w2 ⟨sv, xs, rfl, hmap, hhas⟩
  have hxl : xs.length = D.steps.length := by rw [← hmap, List.length_map]
  have hdr : DRow w2 sv D.steps := by
    have := drow_own hhas (fun r hr => hr) (by omega) (fun x hx => HSO.out _ (by rw [← hmap]; exact List.mem_map.2 ⟨x, hx, rfl⟩))
    rwa [hmap] at this
  have HDR : Hid (DRow w2 sv D.steps) := hdr
  obtain ⟨oo, oc, rfl, _⟩ := hdr.slice
  have HB2 : Hid (Below w0.heap.size w0 w2) := hhas.bel
  clear hhas hmap hxl CC HSO hdr
  have hbx : Below w2.heap.size w2 (w2.alloc (.cells #[.string D.name, .slice oo D.steps.length oc] 24)) := (Below.refl _ _).alloc (Nat.le_refl _) _
  have HOW : Hid (∀ wq, Below (w2.alloc (.cells #[.string D.name, .slice oo D.steps.length oc] 24)).heap.size (w2.alloc (.cells #[.string D.name, .slice oo D.steps.length oc] 24)) wq → Below w.heap.size w wq ∧ (wq.cell? ⟨w.heap.size, 0, none⟩ = some (.string D.name) ∧ wq.cell? ⟨w.heap.size, 1, none⟩ = some (.slice ao D.steps.length cap)) ∧ (wq.cell? ⟨w2.heap.size, 0, none⟩ = some (.string D.name) ∧ wq.cell? ⟨w2.heap.size, 1, none⟩ = some (.slice oo D.steps.length oc)) ∧ DefIn wq (.agg #[.string D.name, .slice oo D.steps.length oc]) D) := fun wq hb => by
    obtain ⟨k1, k2, k3⟩ := box_def wq hb
    have hb4 : Below w0.heap.size w0 wq := HB2.out.trans (k1.mono HB2.out.size)
    obtain ⟨l1, l2, l3⟩ := HW.out _ hb4
    exact ⟨l1, ⟨l2, l3⟩, ⟨k2, k3⟩, _, rfl, HDR.out.below k1⟩
  have HBB := Below.refl (w2.alloc (.cells #[.string D.name, .slice oo D.steps.length oc] 24)).heap.size (w2.alloc (.cells #[.string D.name, .slice oo D.steps.length oc] 24))
  clear hbx
  go_wp2_with fail
  generalize (w2.alloc (.cells #[.string D.name, .slice oo D.steps.length oc] 24)) = w3 at *
  obtain ⟨k1, _, _, k4⟩ := HOW.out _ HBB
  refine (HX.out _ _ k1 k4).mono ?_
  rintro e w4 ⟨rfl, hb4⟩
  have HB4 : Hid (Below w3.heap.size w3 w4) := hb4
  clear hb4 HBB k1 k4
  have HS4 : Hid (Has w4.heap.size w4 [BlockR w4.heap.size (fl c)] (w4.alloc (.cells #[.int .i64 (c 0 : Nat), .int .i64 (c 1 : Nat), .int .i64 (c 2 : Nat), .int .i64 (c 3 : Nat), .int .i64 (c 4 : Nat)] 28))) := (Has.start w4).box (fl c) 28
  obtain ⟨k1, ⟨p0, p1⟩, ⟨q0, q1⟩, _⟩ := HOW.out _ HB4.out
  have hz1 : w.heap.size < w4.heap.size := block_lt_of_cell p0
  have hz2 : ¬ w.heap.size = w4.heap.size := by omega
  clear k1
  go_wp2_with fail
  generalize (w4.alloc (.cells #[.int .i64 (c 0 : Nat), .int .i64 (c 1 : Nat), .int .i64 (c 2 : Nat), .int .i64 (c 3 : Nat), .int .i64 (c 4 : Nat)] 28)) = w5 at *
  generalize hcb : w4.heap.size = cb at *
  have HCB : Hid (w4.heap.size = cb) := hcb
  clear hcb p0 p1 q0 q1
  have HB5 : Hid (Below w3.heap.size w3 w5) := HB4.out.trans ((show Below w4.heap.size w4 w5 by rw [HCB.out]; exact HS4.out.bel).mono HB4.out.size)
  refine (CR.out _ (HOW.out _ HB5.out).1).mono ?_
  rintro e w6 ⟨rfl, hb6⟩
  have HB6 : Hid (Below w3.heap.size w3 w6) := HB5.out.trans (hb6.mono HB5.out.size)
  have HS6 : Hid (Has cb w4 [BlockR w6.heap.size (fl c), BlockR cb (fl c)] (w6.alloc (.cells #[.int .i64 (c 0 : Nat), .int .i64 (c 1 : Nat), .int .i64 (c 2 : Nat), .int .i64 (c 3 : Nat), .int .i64 (c 4 : Nat)] 28))) := (HS4.out.below hb6).box (fl c) 28
  obtain ⟨_, _, ⟨q0, q1⟩, _⟩ := HOW.out _ HB6.out
  have hz3 : w2.heap.size < w6.heap.size := block_lt_of_cell q0
  have hz4 : ¬ w2.heap.size = w6.heap.size := by omega
  have HB7 : Hid (Below w3.heap.size w3 (w6.alloc (.cells #[.int .i64 (c 0 : Nat), .int .i64 (c 1 : Nat), .int .i64 (c 2 : Nat), .int .i64 (c 3 : Nat), .int .i64 (c 4 : Nat)] 28))) := HB6.out.alloc HB6.out.size _
  clear hb6 HS4 HB5 CR
  go_wp2_with fail
  generalize (w6.alloc (.cells #[.int .i64 (c 0 : Nat), .int .i64 (c 1 : Nat), .int .i64 (c 2 : Nat), .int .i64 (c 3 : Nat), .int .i64 (c 4 : Nat)] 28)) = w7 at *
  generalize w6.heap.size = db at *
  clear q0 q1 hz3 hz4
  obtain ⟨k1, _, _, k4⟩ := HOW.out _ HB7.out
  refine (HXN.out _ _ k1 k4).mono ?_
  rintro e w8 ⟨v8, rfl, hown8, hb8⟩
  obtain ⟨a8, c8, rfl, _⟩ := own_form hown8
  have HB8 : Hid (Below w3.heap.size w3 w8) := HB7.out.trans (hb8.mono HB7.out.size)
  have HS8 : Hid (Has cb w4 [OwnR 3 1 (.slice a8 L.length c8) L.length (L.map nV), BlockR db (fl c), BlockR cb (fl c)] w8) := HS6.out.row hown8 hb8
  obtain ⟨_, ⟨p0, p1⟩, _, _⟩ := HOW.out _ HB8.out
  clear k1 k4 hown8 hb8 HS6
  go_wp2_with fail
  refine (CRN.out _ (HOW.out _ HB8.out).1).mono ?_
  rintro e w9 ⟨v9, rfl, hown9, hb9⟩
  obtain ⟨a9, c9, rfl, _⟩ := own_form hown9
  have HB9 : Hid (Below w3.heap.size w3 w9) := HB8.out.trans (hb9.mono HB8.out.size)
  have HS9 : Hid (Has cb w4 [OwnR 3 1 (.slice a9 L.length c9) L.length (L.map nV), OwnR 3 1 (.slice a8 L.length c8) L.length (L.map nV), BlockR db (fl c), BlockR cb (fl c)] w9) := HS8.out.row hown9 hb9
  clear hown9 hb9 HS8 p0 p1
  have hx0 := (HS9.out.five (q := cb) (f := c) (by simp) 0 (by omega)).1
  have hx1 := (HS9.out.five (q := cb) (f := c) (by simp) 1 (by omega)).1
  have hx2 := (HS9.out.five (q := cb) (f := c) (by simp) 2 (by omega)).1
  have hx3 := (HS9.out.five (q := cb) (f := c) (by simp) 3 (by omega)).1
  have hx4 := (HS9.out.five (q := cb) (f := c) (by simp) 4 (by omega)).1
  have hy0 := (HS9.out.five (q := db) (f := c) (by simp) 0 (by omega)).1
  have hy1 := (HS9.out.five (q := db) (f := c) (by simp) 1 (by omega)).1
  have hy2 := (HS9.out.five (q := db) (f := c) (by simp) 2 (by omega)).1
  have hy3 := (HS9.out.five (q := db) (f := c) (by simp) 3 (by omega)).1
  have hy4 := (HS9.out.five (q := db) (f := c) (by simp) 4 (by omega)).1
  have KN := fun wq => neqCost (c 0 : Nat) (c 1 : Nat) (c 2 : Nat) (c 3 : Nat) (c 4 : Nat) wq
  have hL4 := HLN.out
  have CS : Hid (Calls Tryd.prog 11 #[.slice a8 L.length c8, .slice a9 L.length c9] w9 fun e w' => e = .returned (.bool true) ∧ Below w9.heap.size w9 w') := sameN_true L (by omega) _ _ w9 (nrow_own (HS9.out.own (by simp))) (nrow_own (HS9.out.own (by simp)))
  go_wp2_with fail
  refine CS.out.mono ?_
  rintro e w10 ⟨rfl, hb10⟩
  have HS10 : Hid (Has cb w4 [OwnR 3 1 (.slice a8 L.length c8) L.length (L.map nV), OwnR 3 1 (.slice a9 L.length c9) L.length (L.map nV), BlockR db (fl c), BlockR cb (fl c)] w10) := (HS9.out.below hb10).perm (List.Perm.swap _ _ _)
  have HUP : Hid (∀ rs wq, Has cb w4 rs wq → Below w3.heap.size w3 wq) := fun rs wq h => HB4.out.trans ((show Below w4.heap.size w4 wq by rw [HCB.out]; exact h.bel).mono HB4.out.size)
  clear CS hb10 HS9 hx0 hx1 hx2 hx3 hx4 hy0 hy1 hy2 hy3 hy4 KN hz1 hz2 HB8 HB9 HB7 HB6
  go_wp2_with fail
  go_loopw [10] (fun i wr => ∃ (k : Nat) (ys : List Value), k ≤ L.length ∧ i = .int .i64 (k : Int) ∧ Hid (ys.length = L.length) ∧ Hid (Has cb w4 [OwnR 3 1 (.slice a8 L.length c8) L.length ys, OwnR 3 1 (.slice a9 L.length c9) L.length (L.map nV), BlockR db (fl c), BlockR cb (fl c)] wr)) (fun i _ => L.length - (intOf i).toNat)
  case atStart => exact ⟨0, L.map nV, Nat.zero_le _, rfl, List.length_map _, HS10⟩
  case round =>
    obtain ⟨k, ys, hk, rfl, HYL, H⟩ := hrel
    clear HS10
    by_cases hlt : k < L.length
    · have hltI : (k : Int) < (L.length : Int) := by omega
      obtain ⟨ao8, cap8, e8, o1, o2, o3⟩ := own_form (H.out.own List.mem_cons_self)
      cases e8
      cases a8 with
      | none => have := (o2 rfl).1; omega
      | some p =>
        obtain ⟨g8, rfl, _, m2, m3, m4, _⟩ := o3 p rfl
        obtain ⟨u0, x1⟩ : ∃ u0, wr.cell? ⟨g8, k, none⟩ = some u0 := ⟨ys[k]'(by rw [HYL.out]; exact hlt), by rw [m3 k (by omega)]; exact List.getElem?_eq_getElem _⟩
        have x2 := m4 k
        have H2 : Hid (Has cb w4 [OwnR 3 1 (.slice (some ⟨g8, 0, none⟩) L.length c8) L.length (ys.set k (.int .i64 (-1))), OwnR 3 1 (.slice a9 L.length c9) L.length (L.map nV), BlockR db (fl c), BlockR cb (fl c)] (wr.setCell ⟨g8, k, none⟩ (.int .i64 (-1)))) := ownr_set H.out k _
        have HYL2 : Hid ((ys.set k (.int .i64 (-1))).length = L.length) := by rw [List.length_set]; exact HYL.out
        clear H HYL o1 o2 o3 m2 m3 m4
        go_wp2
        exact ⟨⟨k + 1, _, by omega, by go_num, HYL2, H2⟩, by simp [intOf]; omega⟩
    · have hltI : ¬ (k : Int) < (L.length : Int) := by omega
      have HBr : Hid (Below w3.heap.size w3 wr) := HUP.out _ _ H.out
      obtain ⟨k1, ⟨p0, p1⟩, ⟨q0, q1⟩, k4⟩ := HOW.out _ HBr.out
      have HC : Hid (Calls Tryd.prog 9 #[.agg #[.string D.name, .slice oo D.steps.length oc]] wr fun e w' => ∃ v', e = .returned v' ∧ w'.ownsRow wr.heap.size 3 1 v' L.length (L.map nV) ∧ Below wr.heap.size wr w') := HXN.out _ _ k1 k4
      clear k1 k4
      go_wp2_with fail
      refine HC.out.mono ?_
      rintro e w11 ⟨v11, rfl, hown11, hb11⟩
      obtain ⟨a11, c11, rfl, _⟩ := own_form hown11
      have HS11 : Hid (Has cb w4 [OwnR 3 1 (.slice a11 L.length c11) L.length (L.map nV), OwnR 3 1 (.slice a8 L.length c8) L.length ys, OwnR 3 1 (.slice a9 L.length c9) L.length (L.map nV), BlockR db (fl c), BlockR cb (fl c)] w11) := H.out.row hown11 hb11
      have CS : Hid (Calls Tryd.prog 11 #[.slice a11 L.length c11, .slice a9 L.length c9] w11 fun e w' => e = .returned (.bool true) ∧ Below w11.heap.size w11 w') := sameN_true L (by omega) _ _ w11 (nrow_own (HS11.out.own (by simp))) (nrow_own (HS11.out.own (by simp)))
      clear H HYL HC p0 p1 q0 q1 hown11 hb11
      go_wp2_with fail
      refine CS.out.mono ?_
      rintro e w12 ⟨rfl, hb12⟩
      have HB12 : Hid (Below w3.heap.size w3 w12) := HUP.out _ _ (HS11.out.below hb12)
      clear CS hb12 HS11
      obtain ⟨k1, ⟨p0, p1⟩, ⟨q0, q1⟩, k4⟩ := HOW.out _ HB12.out
      have HC2 : Hid (Calls Tryd.prog 12 #[.agg #[.string D.name, .slice oo D.steps.length oc], .agg #[.string D.name, .slice ao D.steps.length cap]] w12 fun e w' => e = .returned (.bool true) ∧ Below w12.heap.size w12 w') := HY.out _ _ k1 k4
      have HK12 : Hid (Below w.heap.size w w12) := k1
      clear k1 k4
      go_wp2_with fail
      refine HC2.out.mono ?_
      rintro e w13 ⟨rfl, hb13⟩
      have HK13 : Hid (Below w.heap.size w w13) := HK12.out.trans (hb13.mono HK12.out.size)
      clear hb13 HC2 p0 p1 q0 q1
      go_wp2_with fail
      refine (CL.out _ HK13.out).mono ?_
      rintro e w14 ⟨rfl, hb14⟩
      go_wp2_with fail
      go_ret
      exact ⟨rfl, hb14⟩
end Go.Proofs.YtaeakednekbekaaDoor
