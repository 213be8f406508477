/- The walk of the law PlanReadies. -/
import Derived.Test.YtmjnllldjeeigaaDoorPkI
set_option linter.unusedVariables false
set_option maxRecDepth 100000
namespace Go.Proofs.YtmjnllldjeeigaaDoor
open Go.RowKit CheckMath
open Go.Proofs.YtmjnllldjeeigaaDoor.Nm

theorem irow_news {w : World} {so : Option Addr} {sc : Nat} {st : List Int} (h : IRow w (.slice so st.length sc) st) : (so = none ∧ st.length = 0 ∧ sc = 0) ∨ ∃ ad, so = some ad ∧ ∀ j u, (st.map fun n => Value.int .i64 n)[j]? = some u → w.cell? (ad.add j) = some u := by
  obtain ⟨ao, cap, e, hc, h0, hl, hr⟩ := h
  injection e with e1 e2 e3
  subst e1 e3
  cases so with
  | none => exact Or.inl ⟨rfl, by have := h0 rfl; omega, h0 rfl⟩
  | some ad =>
    refine Or.inr ⟨ad, rfl, fun j u hu => ?_⟩
    have hj : j < st.length := by have := (List.getElem?_eq_some_iff.1 hu).1; simpa using this
    obtain ⟨g, o, e4, _, hcell⟩ := hr j hj
    injection e4 with e5
    subst e5
    rw [Go.WideShapes.add_plain, hcell, ← hu]
    simp [needAt, List.getD, hj]
set_option maxHeartbeats 8000000 in
theorem readies_walk (v : Value) (D : DefD) (w : World) (h : DefIn w v D) (h80 : D.steps.length * 80 ≤ 140737488355328) (hok : ∀ s, s ∈ D.steps → StOk s) (hz : SzD D) (so : Option Addr) (sc : Nat) (st : List Int) (hs : IRow w (.slice so st.length sc) st) (h8 : st.length * 8 ≤ 140737488355328) (hT : Tabs w) :
    Calls Tryd.prog 4 #[v, .slice so st.length sc] w fun e w' => e = .returned (.bool true) ∧ Below w.heap.size w w' := by
  obtain ⟨ii, hii, hi0, hi1, hi2⟩ := info_parts infoI
  have HD0 : Hid (DefIn w v D) := h
  have HI0 : Hid (IRow w (.slice so st.length sc) st) := hs
  have HTT : Hid (Tabs w) := hT
  have hst : st.length ≤ maxLen := by unfold maxLen; omega
  have HO1 : Hid (∀ u ∈ st.map (fun n => Value.int .i64 n), u.oneCell' = true) := by
    intro u hu; obtain ⟨x, _, rfl⟩ := List.mem_map.1 hu; rfl
  have CC : Hid (∀ wq, Below w.heap.size w wq → Calls Tryd.prog 8 #[v] wq fun e w' => ∃ a2 c2, e = .returned (.agg #[.string D.name, .slice a2 D.steps.length c2]) ∧ DefIn w' (.agg #[.string D.name, .slice a2 D.steps.length c2]) D ∧ Below wq.heap.size wq w') := fun wq hq => by
    refine (copy_any v D wq (HD0.out.below hq) h80 hok).mono ?_
    rintro e w' ⟨csv, xs, rfl, hxs, hh⟩
    have hdr : DRow w' csv D.steps := by
      rw [← hxs]
      refine drow_own hh (fun r hr => hr) ?_ (fun x hx => hok _ (by rw [← hxs]; exact List.mem_map.2 ⟨x, hx, rfl⟩))
      have : xs.length = D.steps.length := by rw [← hxs, List.length_map]
      omega
    obtain ⟨a2, c2, rfl, _⟩ := hdr.slice
    exact ⟨a2, c2, rfl, ⟨_, rfl, hdr⟩, hh.bel⟩
  obtain ⟨sv, rfl, hd⟩ := h
  obtain ⟨ao, cap, rfl, hcap, _, hlen, hrow⟩ := hd
  obtain ⟨w0, hw0⟩ : ∃ w0, w.alloc (.cells #[.string D.name, .slice ao D.steps.length cap] 24) = w0 := ⟨_, rfl⟩
  have HP : Hid (∀ wq, Below w0.heap.size w0 wq → Below w.heap.size w wq ∧ wq.cell? ⟨w.heap.size, 0, none⟩ = some (.string D.name) ∧ wq.cell? ⟨w.heap.size, 1, none⟩ = some (.slice ao D.steps.length cap)) := fun wq hq => by
    subst hw0
    refine ⟨((Below.refl _ w).alloc (Nat.le_refl _) _).trans (hq.mono (by simp)), (hq.cell (p := ⟨w.heap.size, 0, none⟩) (by simp)).trans ?_, (hq.cell (p := ⟨w.heap.size, 1, none⟩) (by simp)).trans ?_⟩
    · go_simp
    · go_simp
  obtain ⟨hb0, p0, p1⟩ := HP.out w0 (Below.refl _ _)
  have C0 := CC.out _ hb0
  clear hrow hs hT hok CC
  go_enter Tryd.func4, Tryd.ntmps4
  go_wp2_with fail
  refine C0.mono ?_
  rintro e w1 ⟨a2, c2, rfl, hd1, hb1⟩
  have HCP : Hid (DefIn w1 (.agg #[.string D.name, .slice a2 D.steps.length c2]) D) := hd1
  have KX : Hid (∀ wq, Below w0.heap.size w0 wq → (so = none ∧ st.length = 0 ∧ sc = 0) ∨ ∃ ad, so = some ad ∧ ∀ j u, (st.map fun n => Value.int .i64 n)[j]? = some u → wq.cell? (ad.add j) = some u) := fun wq hq => irow_news (HI0.out.below (HP.out _ hq).1)
  have HB1 : Hid (Below w0.heap.size w0 (w1.alloc (.cells #[.string D.name, .slice a2 D.steps.length c2] 24))) := hb1.alloc hb1.size _
  have K2 := KX.out _ HB1.out
  have HW1 : Hid (w0.heap.size ≤ w1.heap.size) := hb1.size
  clear C0 hd1 hb1 KX p0 p1 hb0
  go_wp2_with (at_builtin; refine wpList_append_any _ rfl _ _ 26 rfl (w1.alloc (.cells #[.string D.name, .slice a2 D.steps.length c2] 24)).heap.size 3 ii (.int .i64 0) 1 8 Tryd.underlying26 hii hi0 hi1 hi2 rfl (by decide) _ (Below.refl _ _) (Nat.le_refl _) _ 0 [] rfl (World.ownsRow_nil _ _ _ _) so st.length sc (st.map fun n => Value.int .i64 n) rfl (by simp) K2 HO1.out (by omega) (by omega) ?_)
  intro ka kc w3 ho3 hb3 hs3
  obtain ⟨b1, hb1e⟩ : ∃ b1, w1.heap.size = b1 := ⟨_, rfl⟩
  have HKB : Hid (IRow w3 (.slice ka st.length kc) st) := irow_own ho3 (by omega)
  have HX : Hid (∀ wq, Below w3.heap.size w3 wq → Below w.heap.size w wq ∧ wq.cell? ⟨w.heap.size, 0, none⟩ = some (.string D.name) ∧ wq.cell? ⟨w.heap.size, 1, none⟩ = some (.slice ao D.steps.length cap) ∧ wq.cell? ⟨b1, 0, none⟩ = some (.string D.name) ∧ wq.cell? ⟨b1, 1, none⟩ = some (.slice a2 D.steps.length c2) ∧
      DefIn wq (.agg #[.string D.name, .slice ao D.steps.length cap]) D ∧ DefIn wq (.agg #[.string D.name, .slice a2 D.steps.length c2]) D ∧ IRow wq (.slice so st.length sc) st ∧ IRow wq (.slice ka st.length kc) st ∧ Tabs wq) := fun wq hq => by
    have k2 : Below (w1.heap.size + 1) (w1.alloc (.cells #[.string D.name, .slice a2 D.steps.length c2] 24)) wq := hb3.trans (hq.mono hs3)
    have k1 : Below w1.heap.size w1 wq := ((Below.refl _ _).alloc (Nat.le_refl _) _).trans (k2.mono (by simp))
    have k0 : Below w0.heap.size w0 wq := HB1.out.trans (k2.mono (by have := HW1.out; omega))
    obtain ⟨j0, j1, j2⟩ := HP.out wq k0
    subst hb1e
    refine ⟨j0, j1, j2, (k2.cell (p := ⟨w1.heap.size, 0, none⟩) (by simp)).trans ?_, (k2.cell (p := ⟨w1.heap.size, 1, none⟩) (by simp)).trans ?_, HD0.out.below j0, HCP.out.below k1, HI0.out.below j0, HKB.out.below hq, Utf8Tabs_below HTT.out j0⟩
    · go_simp
    · go_simp
  have CS : Hid (∀ x y xs wq, IRow wq x xs → IRow wq y xs → Calls Tryd.prog 11 #[x, y] wq fun e w' => e = .returned (.bool true) ∧ Below wq.heap.size wq w') := fun x y xs wq hx hy => by
    have h := lawSame_any x y xs xs wq hx hy
    rw [tt_yes rfl] at h
    exact h
  obtain ⟨_, x0, x1, x2, x3, x4, x5, x6, x7, x8⟩ := HX.out w3 (Below.refl _ _)
  have L := readyTop_any _ D so sc st w3 x4 x6 x8
  clear K2 HB1 HKB HCP HP hb3 hs3 ho3 HW1 HD0 HI0 HTT x2 x3 x4 x5 x6 x7 x8
  rw [hb1e]
  clear hb1e
  go_wp2_with fail
  refine L.mono ?_
  rintro e w4 ⟨v4, rfl, ho4, hb4⟩
  have HO4 : Hid (w4.ownsRow w3.heap.size 3 1 v4 (readyL D st).length ((readyL D st).map nV)) := ho4
  have HB4 : Hid (Below w3.heap.size w3 w4) := hb4
  have HB4S : Hid (w3.heap.size ≤ w4.heap.size) := hb4.size
  clear L x0 x1 ho4 hb4
  obtain ⟨_, x0, x1, x2, x3, x4, x5, x6, x7, x8⟩ := HX.out w4 HB4.out
  have L := undoTop_any _ D so sc st w4 x4 x6 x8
  clear x2 x3 x4 x5 x6 x7 x8
  go_wp2_with fail
  refine L.mono ?_
  rintro e w5 ⟨v5, rfl, ho5, hb5⟩
  have HO5 : Hid (w5.ownsRow w4.heap.size 3 1 v5 (undoL D st).length ((undoL D st).map nV)) := ho5
  have HB5 : Hid (Below w3.heap.size w3 w5) := HB4.out.trans (hb5.mono HB4.out.size)
  have HAB : Hid (∀ wq, Below w5.heap.size w5 wq → wq.ownsRow w3.heap.size 3 1 v4 (readyL D st).length ((readyL D st).map nV) ∧ wq.ownsRow w4.heap.size 3 1 v5 (undoL D st).length ((undoL D st).map nV) ∧ Below w3.heap.size w3 wq) := fun wq hq =>
    ⟨own_below HO4.out (hb5.trans (hq.mono hb5.size)), own_below HO5.out hq, HB5.out.trans (hq.mono HB5.out.size)⟩
  have HDJ : Hid (∀ g, v5.ownBlock = some g → ¬ v4.ownBlock = some g) := fun g h5 h4 => by
    have a := (own_block_ge HO5.out g h5).1
    have b := (own_block_ge HO4.out g h4).2
    omega
  clear L x0 x1 ho5 HO5 HO4 HB4 hb5
  obtain ⟨_, x0, x1, x2, x3, x4, x5, x6, x7, x8⟩ := HX.out w5 HB5.out
  have L := refReadyTop_any _ D hz ka kc st w5 x5 x7
  clear x0 x1 x4 x5 x6 x7 x8 HB5
  go_wp2_with fail
  refine L.mono ?_
  rintro e w6 ⟨v6, rfl, ho6, hb6⟩
  have HB6 : Hid (Below w5.heap.size w5 w6) := hb6
  have L2 := CS.out _ _ _ w6 (irowN_own (by have := readyL_len D st; omega) (HAB.out w6 hb6).1) (irowN_own (by have := readyL_len D st; omega) ho6)
  clear L x2 x3 ho6 hb6
  go_wp2_with fail
  refine L2.mono ?_
  rintro e w7 ⟨rfl, hb7⟩
  have HB7 : Hid (Below w5.heap.size w5 w7) := HB6.out.trans (hb7.mono HB6.out.size)
  clear L2 hb7 HB6
  obtain ⟨_, x0, x1, x2, x3, x4, x5, x6, x7, x8⟩ := HX.out w7 (HAB.out w7 HB7.out).2.2
  have L := refUndoTop_any _ D hz ka kc st w7 x5 x7
  clear x0 x1 x4 x5 x6 x7 x8
  go_wp2_with fail
  refine L.mono ?_
  rintro e w8 ⟨v8, rfl, ho8, hb8⟩
  have HB8 : Hid (Below w5.heap.size w5 w8) := HB7.out.trans (hb8.mono HB7.out.size)
  have L2 := CS.out _ _ _ w8 (irowN_own (by have := undoL_len D st; omega) (HAB.out w8 HB8.out).2.1) (irowN_own (by have := undoL_len D st; omega) ho8)
  clear L x2 x3 ho8 hb8 HB7
  go_wp2_with fail
  refine L2.mono ?_
  rintro e w9 ⟨rfl, hb9⟩
  have HB9 : Hid (Below w5.heap.size w5 w9) := HB8.out.trans (hb9.mono HB8.out.size)
  clear L2 hb9 HB8
  obtain ⟨y1, y2, y3⟩ := HAB.out w9 HB9.out
  have HY2 : Hid (w9.ownsRow w4.heap.size 3 1 v5 (undoL D st).length ((undoL D st).map nV)) := y2
  have L := filled_below y3 y3.size y1 (by have := readyL_len D st; omega)
  clear y1 y2 y3
  go_wp2_with fail
  refine L.mono ?_
  rintro e w10 ⟨rfl, hb10, hc10⟩
  have HB10 : Hid (Below w3.heap.size w3 w10) := hb10
  have L2 := filled_below hb10 hb10.size (own_base (own_chg HY2.out hc10 HDJ.out) (HB4S.out)) (by have := undoL_len D st; omega)
  clear L hb10 hc10 HY2 HDJ HAB HB9
  go_wp2_with fail
  refine L2.mono ?_
  rintro e w11 ⟨rfl, hb11, _⟩
  have HB11 : Hid (Below w3.heap.size w3 w11) := hb11
  clear L2 hb11 HB10 HB4S
  obtain ⟨_, x0, x1, x2, x3, x4, x5, x6, x7, x8⟩ := HX.out w11 HB11.out
  have L := live_any w11 x8
  clear x0 x1 x2 x3 x4 x5 x6 x7 x8
  go_wp2_with fail
  refine L.mono ?_
  rintro e w12 ⟨rfl, hb12⟩
  have HB12 : Hid (Below w3.heap.size w3 w12) := HB11.out.trans (hb12.mono HB11.out.size)
  clear L hb12 HB11
  obtain ⟨_, x0, x1, x2, x3, x4, x5, x6, x7, x8⟩ := HX.out w12 HB12.out
  have L := refSame_any _ _ D w12 x4 x5
  clear x4 x5 x6 x7 x8
  go_wp2_with fail
  refine L.mono ?_
  rintro e w13 ⟨rfl, hb13⟩
  have HB13 : Hid (Below w3.heap.size w3 w13) := HB12.out.trans (hb13.mono HB12.out.size)
  clear L hb13 HB12 x0 x1 x2 x3
  obtain ⟨_, x0, x1, x2, x3, x4, x5, x6, x7, x8⟩ := HX.out w13 HB13.out
  have L := CS.out _ _ _ w13 x6 x7
  clear x0 x1 x2 x3 x4 x5 x6 x7 x8
  go_wp2_with fail
  refine L.mono ?_
  rintro e w14 ⟨rfl, hb14⟩
  have HB14 : Hid (Below w.heap.size w w14) := (HX.out w14 (HB13.out.trans (hb14.mono HB13.out.size))).1
  clear L hb14 HB13 HX CS
  go_wp2_with fail
  go_ret
  exact ⟨rfl, HB14.out⟩
end Go.Proofs.YtmjnllldjeeigaaDoor
