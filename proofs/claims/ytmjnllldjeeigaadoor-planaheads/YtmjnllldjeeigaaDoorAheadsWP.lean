/- The walk of the law PlanAheads. -/
import Derived.Test.YtmjnllldjeeigaaDoorPkI
set_option linter.unusedVariables false
set_option maxRecDepth 100000
namespace Go.Proofs.YtmjnllldjeeigaaDoor
open Go.RowKit CheckMath
open Go.Proofs.YtmjnllldjeeigaaDoor.Nm

set_option maxHeartbeats 8000000 in
theorem aheads_walk (v : Value) (D : DefD) (w : World) (h : DefIn w v D) (h80 : D.steps.length * 80 ≤ 140737488355328) (hok : ∀ s, s ∈ D.steps → StOk s) (hz : SzD D) (i : Int) (hT : Tabs w) :
    Calls Tryd.prog 3 #[v, .int .i64 i] w fun e w' => e = .returned (.bool true) ∧ Below w.heap.size w w' := by
  have HD0 : Hid (DefIn w v D) := h
  have HTT : Hid (Tabs w) := hT
  have CC : Hid (∀ wq, Below w.heap.size w wq → Calls Tryd.prog 8 #[v] wq fun e w' => ∃ a2 c2, e = .returned (.agg #[.string D.name, .slice a2 D.steps.length c2]) ∧ DefIn w' (.agg #[.string D.name, .slice a2 D.steps.length c2]) D ∧ Below wq.heap.size wq w') := fun wq hq => by
    refine (copy_any v D wq (HD0.out.below hq) h80 hok).mono ?_
    rintro e w' ⟨csv, xs, rfl, hxs, hh⟩
    have hdr : DRow w' csv D.steps := by
      rw [← hxs]
      refine drow_own hh (fun r hr => hr) ?_ (fun x hx => hok _ (by rw [← hxs]; exact List.mem_map.2 ⟨x, hx, rfl⟩))
      have : xs.length = D.steps.length := by rw [← hxs, List.length_map]
      omega
    obtain ⟨a2, c2, rfl, _⟩ := hdr.slice
    exact ⟨a2, c2, rfl, ⟨_, rfl, hdr⟩, hh.bel⟩
  obtain ⟨sv, rfl, hd⟩ := h
  obtain ⟨ao, cap, rfl, hcap, _, hlen, hrow⟩ := hd
  obtain ⟨w0, hw0⟩ : ∃ w0, w.alloc (.cells #[.string D.name, .slice ao D.steps.length cap] 24) = w0 := ⟨_, rfl⟩
  have HP : Hid (∀ wq, Below w0.heap.size w0 wq → Below w.heap.size w wq ∧ wq.cell? ⟨w.heap.size, 0, none⟩ = some (.string D.name) ∧ wq.cell? ⟨w.heap.size, 1, none⟩ = some (.slice ao D.steps.length cap)) := fun wq hq => by
    subst hw0
    refine ⟨((Below.refl _ w).alloc (Nat.le_refl _) _).trans (hq.mono (by simp)), (hq.cell (p := ⟨w.heap.size, 0, none⟩) (by simp)).trans ?_, (hq.cell (p := ⟨w.heap.size, 1, none⟩) (by simp)).trans ?_⟩
    · go_simp
    · go_simp
  obtain ⟨hb0, p0, p1⟩ := HP.out w0 (Below.refl _ _)
  have C0 := CC.out _ hb0
  clear hrow hT hok CC
  go_enter Tryd.func3, Tryd.ntmps3
  go_wp2_with fail
  refine C0.mono ?_
  rintro e w1 ⟨a2, c2, rfl, hd1, hb1⟩
  have HCP : Hid (DefIn w1 (.agg #[.string D.name, .slice a2 D.steps.length c2]) D) := hd1
  obtain ⟨b1, hb1e⟩ : ∃ b1, w1.heap.size = b1 := ⟨_, rfl⟩
  have HX : Hid (∀ wq, Below (w1.alloc (.cells #[.string D.name, .slice a2 D.steps.length c2] 24)).heap.size (w1.alloc (.cells #[.string D.name, .slice a2 D.steps.length c2] 24)) wq → Below w.heap.size w wq ∧ wq.cell? ⟨w.heap.size, 0, none⟩ = some (.string D.name) ∧ wq.cell? ⟨w.heap.size, 1, none⟩ = some (.slice ao D.steps.length cap) ∧ wq.cell? ⟨b1, 0, none⟩ = some (.string D.name) ∧ wq.cell? ⟨b1, 1, none⟩ = some (.slice a2 D.steps.length c2) ∧
      DefIn wq (.agg #[.string D.name, .slice ao D.steps.length cap]) D ∧ DefIn wq (.agg #[.string D.name, .slice a2 D.steps.length c2]) D ∧ Tabs wq) := fun wq k2 => by
    have k1 : Below w1.heap.size w1 wq := ((Below.refl _ _).alloc (Nat.le_refl _) _).trans (k2.mono (by simp))
    have k0 : Below w0.heap.size w0 wq := hb1.trans (k1.mono hb1.size)
    obtain ⟨j0, j1, j2⟩ := HP.out wq k0
    subst hb1e
    refine ⟨j0, j1, j2, (k2.cell (p := ⟨w1.heap.size, 0, none⟩) (by simp)).trans ?_, (k2.cell (p := ⟨w1.heap.size, 1, none⟩) (by simp)).trans ?_, HD0.out.below j0, HCP.out.below k1, Utf8Tabs_below HTT.out j0⟩
    · go_simp
    · go_simp
  have HB2 : Hid (Below (w1.alloc (.cells #[.string D.name, .slice a2 D.steps.length c2] 24)).heap.size (w1.alloc (.cells #[.string D.name, .slice a2 D.steps.length c2] 24)) (w1.alloc (.cells #[.string D.name, .slice a2 D.steps.length c2] 24))) := Below.refl _ _
  have CS : Hid (∀ x y xs wq, IRow wq x xs → IRow wq y xs → Calls Tryd.prog 11 #[x, y] wq fun e w' => e = .returned (.bool true) ∧ Below wq.heap.size wq w') := fun x y xs wq hx hy => by
    have h := lawSame_any x y xs xs wq hx hy
    rw [tt_yes rfl] at h
    exact h
  clear C0 hd1 hb1 p0 p1 hb0 HCP HP HD0 HTT
  go_wp2_with fail
  generalize (w1.alloc (.cells #[.string D.name, .slice a2 D.steps.length c2] 24)) = w3 at *
  clear hb1e
  go_loopw [6] (fun kv wr => ∃ k : Int, -1 ≤ k ∧ k ≤ 10 ∧ kv = .int .i64 k ∧ Hid (Below w3.heap.size w3 wr)) (fun kv _ => (10 - intOf kv).toNat)
  case atStart => exact ⟨-1, by omega, by omega, rfl, HB2⟩
  case round =>
    obtain ⟨k, hk1, hk2, rfl, HB⟩ := hrel
    clear HB2
    obtain ⟨_, x0, x1, x2, x3, x4, x5, x8⟩ := HX.out wr HB.out
    by_cases hc1 : k ≤ (D.steps.length : Int)
    case neg =>
      have L := live_any wr x8
      clear x0 x1 x2 x4 x5 x8
      go_wp2_with fail
      clear x3
      refine L.mono ?_
      rintro e w12 ⟨rfl, hb12⟩
      have HB12 : Hid (Below w3.heap.size w3 w12) := HB.out.trans (hb12.mono HB.out.size)
      clear L hb12 HB
      obtain ⟨_, x0, x1, x2, x3, x4, x5, x8⟩ := HX.out w12 HB12.out
      have L := refSame_any _ _ D w12 x4 x5
      clear x4 x5 x8
      go_wp2_with fail
      refine L.mono ?_
      rintro e w13 ⟨rfl, hb13⟩
      have HB13 : Hid (Below w.heap.size w w13) := (HX.out w13 (HB12.out.trans (hb13.mono HB12.out.size))).1
      clear L hb13 HB12 x0 x1 x2 x3 HX CS
      go_wp2_with fail
      go_ret
      exact ⟨rfl, HB13.out⟩
    by_cases hc2 : k ≤ 9
    case neg =>
      have L := live_any wr x8
      clear x0 x1 x2 x4 x5 x8
      go_wp2_with fail
      clear x3
      refine L.mono ?_
      rintro e w12 ⟨rfl, hb12⟩
      have HB12 : Hid (Below w3.heap.size w3 w12) := HB.out.trans (hb12.mono HB.out.size)
      clear L hb12 HB
      obtain ⟨_, x0, x1, x2, x3, x4, x5, x8⟩ := HX.out w12 HB12.out
      have L := refSame_any _ _ D w12 x4 x5
      clear x4 x5 x8
      go_wp2_with fail
      refine L.mono ?_
      rintro e w13 ⟨rfl, hb13⟩
      have HB13 : Hid (Below w.heap.size w w13) := (HX.out w13 (HB12.out.trans (hb13.mono HB12.out.size))).1
      clear L hb13 HB12 x0 x1 x2 x3 HX CS
      go_wp2_with fail
      go_ret
      exact ⟨rfl, HB13.out⟩
    by_cases hk : k < 0
    case pos =>
      have L := ahead_any _ D i wr x4 x8
      clear x2 x4 x5 x8
      go_wp2_with fail
      refine L.mono ?_
      rintro e w4 ⟨v4, rfl, ho4, hb4⟩
      have HO4 : Hid (w4.ownsRow wr.heap.size 3 1 v4 (aheadL D i).length ((aheadL D i).map nV)) := ho4
      have HB4 : Hid (Below wr.heap.size wr w4) := hb4
      have HB4S : Hid (wr.heap.size ≤ w4.heap.size) := hb4.size
      have HT : Hid (∀ wq, Below wr.heap.size wr wq → Below w3.heap.size w3 wq) := fun wq hq => HB.out.trans (hq.mono HB.out.size)
      clear L x0 x1 x3 ho4 hb4 HB
      obtain ⟨_, x0, x1, x2, x3, x4, x5, x8⟩ := HX.out w4 (HT.out _ HB4.out)
      have L := behind_any _ D i w4 x4 x8
      clear x2 x3 x4 x5 x8
      go_wp2_with fail
      refine L.mono ?_
      rintro e w5 ⟨v5, rfl, ho5, hb5⟩
      have HO5 : Hid (w5.ownsRow w4.heap.size 3 1 v5 (behindL D i).length ((behindL D i).map nV)) := ho5
      have HB5 : Hid (Below wr.heap.size wr w5) := HB4.out.trans (hb5.mono HB4.out.size)
      have HAB : Hid (∀ wq, Below w5.heap.size w5 wq → wq.ownsRow wr.heap.size 3 1 v4 (aheadL D i).length ((aheadL D i).map nV) ∧ wq.ownsRow w4.heap.size 3 1 v5 (behindL D i).length ((behindL D i).map nV) ∧ Below wr.heap.size wr wq) := fun wq hq =>
        ⟨own_below HO4.out (hb5.trans (hq.mono hb5.size)), own_below HO5.out hq, HB5.out.trans (hq.mono HB5.out.size)⟩
      have HDJ : Hid (∀ g, v5.ownBlock = some g → ¬ v4.ownBlock = some g) := fun g h5 h4 => by
        have a := (own_block_ge HO5.out g h5).1
        have b := (own_block_ge HO4.out g h4).2
        omega
      clear L x0 x1 ho5 HO5 HO4 HB4 hb5
      obtain ⟨_, x0, x1, x2, x3, x4, x5, x8⟩ := HX.out w5 (HT.out _ HB5.out)
      have L := refAheadTop_any _ D hz i w5 x5
      clear x0 x1 x4 x5 x8 HB5
      go_wp2_with fail
      refine L.mono ?_
      rintro e w6 ⟨v6, rfl, ho6, hb6⟩
      have HB6 : Hid (Below w5.heap.size w5 w6) := hb6
      have L2 := CS.out _ _ _ w6 (irowN_own (by have := aheadL_len D i; omega) (HAB.out w6 hb6).1) (irowN_own (by have := aheadL_len D i; omega) ho6)
      clear L x2 x3 ho6 hb6
      go_wp2_with fail
      refine L2.mono ?_
      rintro e w7 ⟨rfl, hb7⟩
      have HB7 : Hid (Below w5.heap.size w5 w7) := HB6.out.trans (hb7.mono HB6.out.size)
      clear L2 hb7 HB6
      obtain ⟨_, x0, x1, x2, x3, x4, x5, x8⟩ := HX.out w7 (HT.out _ (HAB.out w7 HB7.out).2.2)
      have L := refBehindTop_any _ D hz i w7 x5
      clear x0 x1 x4 x5 x8
      go_wp2_with fail
      refine L.mono ?_
      rintro e w8 ⟨v8, rfl, ho8, hb8⟩
      have HB8 : Hid (Below w5.heap.size w5 w8) := HB7.out.trans (hb8.mono HB7.out.size)
      have L2 := CS.out _ _ _ w8 (irowN_own (by have := behindL_len D i; omega) (HAB.out w8 HB8.out).2.1) (irowN_own (by have := behindL_len D i; omega) ho8)
      clear L x2 x3 ho8 hb8 HB7
      go_wp2_with fail
      refine L2.mono ?_
      rintro e w9 ⟨rfl, hb9⟩
      have HB9 : Hid (Below w5.heap.size w5 w9) := HB8.out.trans (hb9.mono HB8.out.size)
      clear L2 hb9 HB8
      obtain ⟨y1, y2, y3⟩ := HAB.out w9 HB9.out
      have HY2 : Hid (w9.ownsRow w4.heap.size 3 1 v5 (behindL D i).length ((behindL D i).map nV)) := y2
      have L := filled_below y3 y3.size y1 (by have := aheadL_len D i; omega)
      clear y1 y2 y3
      go_wp2_with fail
      refine L.mono ?_
      rintro e w10 ⟨rfl, hb10, hc10⟩
      have L2 := filled_below hb10 hb10.size (own_base (own_chg HY2.out hc10 HDJ.out) (HB4S.out)) (by have := behindL_len D i; omega)
      clear L hb10 hc10 HY2 HDJ HAB HB9
      go_wp2_with fail
      refine L2.mono ?_
      rintro e w11 ⟨rfl, hb11, _⟩
      have HB11 : Hid (Below w3.heap.size w3 w11) := HT.out _ hb11
      clear L2 hb11 HB4S HT
      go_wp2
      exact ⟨⟨k + 1, by omega, by omega, by go_num, HB11⟩, by simp [intOf]; omega⟩
    case neg =>
      have L := ahead_any _ D k wr x4 x8
      clear x2 x4 x5 x8
      go_wp2_with fail
      refine L.mono ?_
      rintro e w4 ⟨v4, rfl, ho4, hb4⟩
      have HO4 : Hid (w4.ownsRow wr.heap.size 3 1 v4 (aheadL D k).length ((aheadL D k).map nV)) := ho4
      have HB4 : Hid (Below wr.heap.size wr w4) := hb4
      have HB4S : Hid (wr.heap.size ≤ w4.heap.size) := hb4.size
      have HT : Hid (∀ wq, Below wr.heap.size wr wq → Below w3.heap.size w3 wq) := fun wq hq => HB.out.trans (hq.mono HB.out.size)
      clear L x0 x1 x3 ho4 hb4 HB
      obtain ⟨_, x0, x1, x2, x3, x4, x5, x8⟩ := HX.out w4 (HT.out _ HB4.out)
      have L := behind_any _ D k w4 x4 x8
      clear x2 x3 x4 x5 x8
      go_wp2_with fail
      refine L.mono ?_
      rintro e w5 ⟨v5, rfl, ho5, hb5⟩
      have HO5 : Hid (w5.ownsRow w4.heap.size 3 1 v5 (behindL D k).length ((behindL D k).map nV)) := ho5
      have HB5 : Hid (Below wr.heap.size wr w5) := HB4.out.trans (hb5.mono HB4.out.size)
      have HAB : Hid (∀ wq, Below w5.heap.size w5 wq → wq.ownsRow wr.heap.size 3 1 v4 (aheadL D k).length ((aheadL D k).map nV) ∧ wq.ownsRow w4.heap.size 3 1 v5 (behindL D k).length ((behindL D k).map nV) ∧ Below wr.heap.size wr wq) := fun wq hq =>
        ⟨own_below HO4.out (hb5.trans (hq.mono hb5.size)), own_below HO5.out hq, HB5.out.trans (hq.mono HB5.out.size)⟩
      have HDJ : Hid (∀ g, v5.ownBlock = some g → ¬ v4.ownBlock = some g) := fun g h5 h4 => by
        have a := (own_block_ge HO5.out g h5).1
        have b := (own_block_ge HO4.out g h4).2
        omega
      clear L x0 x1 ho5 HO5 HO4 HB4 hb5
      obtain ⟨_, x0, x1, x2, x3, x4, x5, x8⟩ := HX.out w5 (HT.out _ HB5.out)
      have L := refAheadTop_any _ D hz k w5 x5
      clear x0 x1 x4 x5 x8 HB5
      go_wp2_with fail
      refine L.mono ?_
      rintro e w6 ⟨v6, rfl, ho6, hb6⟩
      have HB6 : Hid (Below w5.heap.size w5 w6) := hb6
      have L2 := CS.out _ _ _ w6 (irowN_own (by have := aheadL_len D k; omega) (HAB.out w6 hb6).1) (irowN_own (by have := aheadL_len D k; omega) ho6)
      clear L x2 x3 ho6 hb6
      go_wp2_with fail
      refine L2.mono ?_
      rintro e w7 ⟨rfl, hb7⟩
      have HB7 : Hid (Below w5.heap.size w5 w7) := HB6.out.trans (hb7.mono HB6.out.size)
      clear L2 hb7 HB6
      obtain ⟨_, x0, x1, x2, x3, x4, x5, x8⟩ := HX.out w7 (HT.out _ (HAB.out w7 HB7.out).2.2)
      have L := refBehindTop_any _ D hz k w7 x5
      clear x0 x1 x4 x5 x8
      go_wp2_with fail
      refine L.mono ?_
      rintro e w8 ⟨v8, rfl, ho8, hb8⟩
      have HB8 : Hid (Below w5.heap.size w5 w8) := HB7.out.trans (hb8.mono HB7.out.size)
      have L2 := CS.out _ _ _ w8 (irowN_own (by have := behindL_len D k; omega) (HAB.out w8 HB8.out).2.1) (irowN_own (by have := behindL_len D k; omega) ho8)
      clear L x2 x3 ho8 hb8 HB7
      go_wp2_with fail
      refine L2.mono ?_
      rintro e w9 ⟨rfl, hb9⟩
      have HB9 : Hid (Below w5.heap.size w5 w9) := HB8.out.trans (hb9.mono HB8.out.size)
      clear L2 hb9 HB8
      obtain ⟨y1, y2, y3⟩ := HAB.out w9 HB9.out
      have HY2 : Hid (w9.ownsRow w4.heap.size 3 1 v5 (behindL D k).length ((behindL D k).map nV)) := y2
      have L := filled_below y3 y3.size y1 (by have := aheadL_len D k; omega)
      clear y1 y2 y3
      go_wp2_with fail
      refine L.mono ?_
      rintro e w10 ⟨rfl, hb10, hc10⟩
      have L2 := filled_below hb10 hb10.size (own_base (own_chg HY2.out hc10 HDJ.out) (HB4S.out)) (by have := behindL_len D k; omega)
      clear L hb10 hc10 HY2 HDJ HAB HB9
      go_wp2_with fail
      refine L2.mono ?_
      rintro e w11 ⟨rfl, hb11, _⟩
      have HB11 : Hid (Below w3.heap.size w3 w11) := HT.out _ hb11
      clear L2 hb11 HB4S HT
      go_wp2
      exact ⟨⟨k + 1, by omega, by omega, by go_num, HB11⟩, by simp [intOf]; omega⟩
end Go.Proofs.YtmjnllldjeeigaaDoor

