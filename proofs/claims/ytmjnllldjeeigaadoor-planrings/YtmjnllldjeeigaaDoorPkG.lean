/- The texts RefNW, RefTopW, TopW, UndoW, ReadyW, TripM, TellW, TripW, SmallW, one behind the other. -/
import Derived.Test.YtmjnllldjeeigaaDoorPkF
import Derived.Maps.OwnIn
/- The walk of the document's numbers (chapter 12). -/
set_option linter.unusedVariables false
set_option maxRecDepth 100000
namespace Go.Proofs.YtmjnllldjeeigaaDoor
open Go.RowKit CheckMath
open Go.Proofs.YtmjnllldjeeigaaDoor.Nm

def nl (l : Nat → Bool) (n : Nat) : List Nat := (List.range n).filter l
theorem nl_yes {l : Nat → Bool} {n : Nat} (h : l n = true) : nl l (n + 1) = nl l n ++ [n] := by simp [nl, List.range_succ, List.filter_append, h]
theorem nl_no {l : Nat → Bool} {n : Nat} (h : l n = false) : nl l (n + 1) = nl l n := by simp [nl, List.range_succ, List.filter_append, h]
theorem nl_len (l : Nat → Bool) (n : Nat) : (nl l n).length ≤ n := by
  have := List.length_filter_le l (List.range n)
  rw [List.length_range] at this
  exact this
theorem box_num {w : World} {nm : ByteArray} {ao : Option Addr} {n cap : Nat} {l : Nat → Bool} (wq : World) (hb : Below ((w.alloc (.cells #[.string nm, .slice ao n cap] 24)).alloc (.cells (bl l).toArray 56)).heap.size ((w.alloc (.cells #[.string nm, .slice ao n cap] 24)).alloc (.cells (bl l).toArray 56)) wq) :
    Below w.heap.size w wq ∧ wq.cell? ⟨w.heap.size, 1, none⟩ = some (.slice ao n cap) ∧ ∀ j, j < 8 → wq.cell? ⟨w.heap.size + 1, j, none⟩ = some (.bool (l j)) := by
  have hb0 : Below w.heap.size w (w.alloc (.cells #[.string nm, .slice ao n cap] 24)) := (Below.refl _ _).alloc (Nat.le_refl _) _
  have hs1 : (w.alloc (.cells #[.string nm, .slice ao n cap] 24)).heap.size = w.heap.size + 1 := by simp
  generalize hw0 : w.alloc (.cells #[.string nm, .slice ao n cap] 24) = w0 at *
  have h1 : Below w0.heap.size w0 (w0.alloc (.cells (bl l).toArray 56)) := (Below.refl _ _).alloc (Nat.le_refl _) _
  have h2 : Below w0.heap.size w0 wq := h1.trans (hb.mono h1.size)
  refine ⟨hb0.trans (h2.mono hb0.size), ?_, fun j hj => ?_⟩
  · rw [h2.cell (p := ⟨w.heap.size, 1, none⟩) (by show w.heap.size < _; omega), ← hw0, World.cell?_alloc_new]; rfl
  · rw [hb.cell (p := ⟨w.heap.size + 1, j, none⟩) (by simp; omega), ← hs1, World.cell?_alloc_new]
    have := bl_at l j hj
    simpa using this
set_option maxHeartbeats 4000000 in
theorem refNumbers_any (v : Value) (D : DefD) (h8 : D.steps.length ≤ 8) (l : Nat → Bool) (w : World) (h : DefIn w v D) :
    Calls Tryd.prog 29 #[v, .agg (bl l).toArray] w fun e w' => ∃ v', e = .returned v' ∧ w'.ownsRow w.heap.size 3 1 v' (nl l D.steps.length).length ((nl l D.steps.length).map nV) ∧ Below w.heap.size w w' := by
  obtain ⟨sv, rfl, hd⟩ := h
  obtain ⟨ao, cap, rfl, hcap⟩ := hd.slice
  obtain ⟨i0, hi, hz0, hz1, hz2⟩ := info_parts infoI
  have HW : Hid (∀ wq, Below ((w.alloc (.cells #[.string D.name, .slice ao D.steps.length cap] 24)).alloc (.cells (bl l).toArray 56)).heap.size ((w.alloc (.cells #[.string D.name, .slice ao D.steps.length cap] 24)).alloc (.cells (bl l).toArray 56)) wq → Below w.heap.size w wq ∧ wq.cell? ⟨w.heap.size, 1, none⟩ = some (.slice ao D.steps.length cap) ∧ ∀ j, j < 8 → wq.cell? ⟨w.heap.size + 1, j, none⟩ = some (.bool (l j))) := fun wq hb => box_num wq hb
  have HB0 : Hid (Below ((w.alloc (.cells #[.string D.name, .slice ao D.steps.length cap] 24)).alloc (.cells (bl l).toArray 56)).heap.size ((w.alloc (.cells #[.string D.name, .slice ao D.steps.length cap] 24)).alloc (.cells (bl l).toArray 56)) ((w.alloc (.cells #[.string D.name, .slice ao D.steps.length cap] 24)).alloc (.cells (bl l).toArray 56))) := Below.refl _ _
  have HSZ : Hid (w.heap.size ≤ ((w.alloc (.cells #[.string D.name, .slice ao D.steps.length cap] 24)).alloc (.cells (bl l).toArray 56)).heap.size) := (((Below.refl _ w).alloc (Nat.le_refl _) _).alloc (by simp) _).size
  clear hd
  unfold bl at *
  go_enter Tryd.func29, Tryd.ntmps29
  go_wp2_with fail
  generalize ((w.alloc (.cells #[.string D.name, .slice ao D.steps.length cap] 24)).alloc (.cells #[.bool (l 0), .bool (l 1), .bool (l 2), .bool (l 3), .bool (l 4), .bool (l 5), .bool (l 6), .bool (l 7)] 56)) = w0 at *
  go_loopw [5, 6] (fun vv k wr => ∃ n : Nat, n ≤ D.steps.length ∧ k = .int .i64 (n : Int) ∧ Hid (wr.ownsRow w0.heap.size 3 1 vv (nl l n).length ((nl l n).map nV)) ∧ Hid (Below w0.heap.size w0 wr)) (fun _ k _ => D.steps.length - (intOf k).toNat)
  case atStart => exact ⟨0, Nat.zero_le _, rfl, World.ownsRow_nil _ _ _ _, HB0⟩
  case round =>
    obtain ⟨n, hn, rfl, HO, HB⟩ := hrel
    obtain ⟨hbw, p1, p2⟩ := HW.out _ HB.out
    by_cases hlt : n < D.steps.length
    · have hltI : (n : Int) < (D.steps.length : Int) := by omega
      have hn8 : (n : Int) < 8 := by omega
      have q1 := p2 n (by omega)
      have hgl := nl_len l n
      have hown := HO.out
      clear p2 hbw
      cases hb : l n with
      | true =>
        rw [hb] at q1
        have HL : Hid (nl l (n + 1) = nl l n ++ [n]) := nl_yes hb
        clear hb
        go_wp2_with (at_builtin; refine wpList_append_own _ rfl _ _ 26 rfl w0.heap.size 3 i0 (.int .i64 0) 1 8 Tryd.underlying26 hi hz0 hz1 hz2 rfl (by decide) _ _ _ rfl (hown.alloc _) ⟨_, 0, none⟩ 1 1 [nV n] rfl rfl (cells_new _ _ _) (one_iV _) (by unfold maxLen; omega) (by omega) (by simp; have := HB.out.size; omega) ?_)
        intro v' w' hown' hgrow hnn
        have HB' : Hid (Below w0.heap.size w0 w') := (HB.out.alloc HB.out.size _).grown hgrow (by simp; have := HB.out.size; omega) (fun k h => (hown.lt k h).1)
        have HO3 : Hid (w'.ownsRow w0.heap.size 3 1 v' (nl l (n + 1)).length ((nl l (n + 1)).map nV)) := by
          rw [HL.out, List.map_append, List.length_append]; exact hown'
        clear hown' hgrow hnn hown HO HB
        go_wp2
        exact ⟨⟨n + 1, by omega, by go_num, HO3, HB'⟩, by simp [intOf]; omega⟩
      | false =>
        rw [hb] at q1
        have HO3 : Hid (wr.ownsRow w0.heap.size 3 1 u5 (nl l (n + 1)).length ((nl l (n + 1)).map nV)) := by rw [nl_no hb]; exact hown
        clear hb
        go_wp2
        exact ⟨⟨n + 1, by omega, by go_num, HO3, HB⟩, by simp [intOf]; omega⟩
    · have hltI : ¬ (n : Int) < (D.steps.length : Int) := by omega
      have HE : Hid (wr.ownsRow w.heap.size 3 1 u5 (nl l D.steps.length).length ((nl l D.steps.length).map nV)) := by
        rw [show D.steps.length = n by omega]
        exact own_base HO.out HSZ.out
      clear p2
      go_wp2
      go_ret
      exact ⟨_, rfl, HE.out, hbw⟩
end Go.Proofs.YtmjnllldjeeigaaDoor

/- The walk of the document's Ahead (chapter 12). -/
set_option linter.unusedVariables false
set_option maxRecDepth 100000
namespace Go.Proofs.YtmjnllldjeeigaaDoor
open Go.RowKit CheckMath
open Go.Proofs.YtmjnllldjeeigaaDoor.Nm

def InD (D : DefD) (i : Int) : Prop := Fine D ∧ 0 ≤ i ∧ i < D.steps.length
/-- The steps ahead of a step, rising; none, where it is none's number or the definition may not be. -/
noncomputable def aheadL (D : DefD) (i : Int) : List Nat := if tt (InD D i) = true then nl (fun j => tt (AheadP D.steps i.toNat j)) D.steps.length else []
theorem aheadL_yes {D : DefD} {i : Int} (h : InD D i) : aheadL D i = nl (fun j => tt (AheadP D.steps i.toNat j)) D.steps.length := by unfold aheadL; rw [if_pos (tt_yes h)]
theorem aheadL_no {D : DefD} {i : Int} (h : ¬ InD D i) : aheadL D i = [] := by unfold aheadL; rw [if_neg (by rw [tt_no h]; simp)]
def RowOf (w : World) (L : List Nat) (e : Ending) (w' : World) : Prop := ∃ v, e = .returned v ∧ w'.ownsRow w.heap.size 3 1 v L.length (L.map nV) ∧ Below w.heap.size w w'
theorem rowOf_nil (w w' : World) (h : Below w.heap.size w w') : RowOf w [] (.returned (.slice none 0 0)) w' := ⟨_, rfl, World.ownsRow_nil _ _ _ _, h⟩
set_option maxHeartbeats 4000000 in
theorem refAheadTop_any (v : Value) (D : DefD) (hz : SzD D) (i : Int) (w : World) (h : DefIn w v D) :
    Calls Tryd.prog 12 #[v, .int .i64 i] w fun e w' => RowOf w (aheadL D i) e w' := by
  have HDI : Hid (DefIn w v D) := h
  obtain ⟨sv, rfl, hd⟩ := h
  obtain ⟨ao, cap, rfl, hcap, _, hlen, _⟩ := hd
  have hb0 : Below w.heap.size w (w.alloc (.cells #[.string D.name, .slice ao D.steps.length cap] 24)) := (Below.refl _ _).alloc (Nat.le_refl _) _
  have HW : Hid (∀ wq, Below (w.alloc (.cells #[.string D.name, .slice ao D.steps.length cap] 24)).heap.size (w.alloc (.cells #[.string D.name, .slice ao D.steps.length cap] 24)) wq → Below w.heap.size w wq ∧ wq.cell? ⟨w.heap.size, 0, none⟩ = some (.string D.name) ∧ wq.cell? ⟨w.heap.size, 1, none⟩ = some (.slice ao D.steps.length cap)) := fun wq hb => box_def wq hb
  have CM : Hid (Calls Tryd.prog 28 #[.agg #[.string D.name, .slice ao D.steps.length cap]] (w.alloc (.cells #[.string D.name, .slice ao D.steps.length cap] 24)) fun e w' => e = .returned (.bool (tt (Fine D))) ∧ Below (w.alloc (.cells #[.string D.name, .slice ao D.steps.length cap] 24)).heap.size (w.alloc (.cells #[.string D.name, .slice ao D.steps.length cap] 24)) w') := refMay_any _ D hz _ (HDI.out.below hb0)
  have HNO : Hid (¬ InD D i → aheadL D i = []) := aheadL_no
  clear hb0 hz
  by_cases hf : Fine D
  case neg =>
    rw [tt_no hf] at CM
    have HL : Hid (aheadL D i = []) := HNO.out (fun h => hf h.1)
    clear HNO hf
    go_enter Tryd.func12, Tryd.ntmps12
    go_wp2_with fail
    refine CM.out.mono ?_
    rintro e w1 ⟨rfl, hb1⟩
    obtain ⟨k1, p0, p1⟩ := HW.out _ hb1
    go_wp2_with fail
    go_ret
    rw [HL.out]
    exact rowOf_nil _ _ k1
  rw [tt_yes hf] at CM
  by_cases h0 : i < 0
  · have HL : Hid (aheadL D i = []) := HNO.out (fun h => by have := h.2.1; omega)
    clear HNO hf
    go_enter Tryd.func12, Tryd.ntmps12
    go_wp2_with fail
    refine CM.out.mono ?_
    rintro e w1 ⟨rfl, hb1⟩
    obtain ⟨k1, p0, p1⟩ := HW.out _ hb1
    go_wp2_with fail
    go_ret
    rw [HL.out]
    exact rowOf_nil _ _ k1
  by_cases h1 : (D.steps.length : Int) ≤ i
  · have HL : Hid (aheadL D i = []) := HNO.out (fun h => by have := h.2.2; omega)
    clear HNO hf
    go_enter Tryd.func12, Tryd.ntmps12
    go_wp2_with fail
    refine CM.out.mono ?_
    rintro e w1 ⟨rfl, hb1⟩
    obtain ⟨k1, p0, p1⟩ := HW.out _ hb1
    go_wp2_with fail
    go_ret
    rw [HL.out]
    exact rowOf_nil _ _ k1
  obtain ⟨m, rfl⟩ : ∃ m : Nat, i = (m : Int) := ⟨i.toNat, by omega⟩
  have hm : m < D.steps.length := by omega
  have HL : Hid (∀ l : Nat → Bool, (∀ y, l y = true ↔ AheadP D.steps m y) → aheadL D (m : Int) = nl l D.steps.length) := fun l hl => by
    rw [aheadL_yes ⟨hf, by omega, by omega⟩]
    congr 1
    funext y
    rw [Int.toNat_natCast]
    cases e : l y with
    | true => exact tt_yes ((hl y).1 e)
    | false => exact tt_no (fun h => by rw [(hl y).2 h] at e; cases e)
  have h8 : D.steps.length ≤ 8 := hf.few
  have CA : Hid (∀ wq, Hid (Below (w.alloc (.cells #[.string D.name, .slice ao D.steps.length cap] 24)).heap.size (w.alloc (.cells #[.string D.name, .slice ao D.steps.length cap] 24)) wq) → Calls Tryd.prog 30 #[.agg #[.string D.name, .slice ao D.steps.length cap], .int .i64 (m : Int)] wq fun e w' => ∃ l : Nat → Bool, e = .returned (.agg (bl l).toArray) ∧ Hid (∀ y, l y = true ↔ AheadP D.steps m y) ∧ (w'.cell? ⟨w.heap.size, 0, none⟩ = some (.string D.name) ∧ w'.cell? ⟨w.heap.size, 1, none⟩ = some (.slice ao D.steps.length cap)) ∧ Hid (Below (w.alloc (.cells #[.string D.name, .slice ao D.steps.length cap] 24)).heap.size (w.alloc (.cells #[.string D.name, .slice ao D.steps.length cap] 24)) w')) := fun wq h2 => by
    refine (refAhead_any _ D h8 m hm wq (HDI.out.below (HW.out _ h2.out).1)).mono ?_
    rintro e w' ⟨l, he, hl, hb⟩
    have h3 := h2.out.trans (hb.mono h2.out.size)
    obtain ⟨k1, k2, k3⟩ := HW.out _ h3
    exact ⟨l, he, hl, ⟨k2, k3⟩, h3⟩
  have CN : Hid (∀ l wq, Hid (Below (w.alloc (.cells #[.string D.name, .slice ao D.steps.length cap] 24)).heap.size (w.alloc (.cells #[.string D.name, .slice ao D.steps.length cap] 24)) wq) → Calls Tryd.prog 29 #[.agg #[.string D.name, .slice ao D.steps.length cap], .agg (bl l).toArray] wq fun e w' => ∃ v', e = .returned v' ∧ (w'.cell? ⟨w.heap.size, 0, none⟩ = some (.string D.name) ∧ w'.cell? ⟨w.heap.size, 1, none⟩ = some (.slice ao D.steps.length cap)) ∧ Hid (RowOf w (nl l D.steps.length) (.returned v') w')) := fun l wq h2 => by
    obtain ⟨k1, _, _⟩ := HW.out _ h2.out
    refine (refNumbers_any _ D h8 l wq (HDI.out.below k1)).mono ?_
    rintro e w' ⟨v', he, ho, hb⟩
    obtain ⟨l1, l2, l3⟩ := HW.out _ (h2.out.trans (hb.mono h2.out.size))
    exact ⟨v', he, ⟨l2, l3⟩, v', rfl, own_base ho k1.size, l1⟩
  have hmI : (m : Int) < (D.steps.length : Int) := by omega
  clear HNO hf HDI h8 hm
  go_enter Tryd.func12, Tryd.ntmps12
  go_wp2_with fail
  refine CM.out.mono ?_
  rintro e w1 ⟨rfl, hb1⟩
  obtain ⟨k1, p0, p1⟩ := HW.out _ hb1
  have HB1 : Hid (Below (w.alloc (.cells #[.string D.name, .slice ao D.steps.length cap] 24)).heap.size (w.alloc (.cells #[.string D.name, .slice ao D.steps.length cap] 24)) w1.drew) := hb1.trans ⟨rfl, rfl, rfl, Nat.le_refl _, fun _ _ => rfl⟩
  generalize (w.alloc (.cells #[.string D.name, .slice ao D.steps.length cap] 24)) = w0 at *
  clear hb1 k1 HW CM
  go_wp2_with fail
  go_region_held3 (fun w' => w'.cell? ⟨w.heap.size, 0, none⟩ = some (.string D.name) ∧ w'.cell? ⟨w.heap.size, 1, none⟩ = some (.slice ao D.steps.length cap)) (go_keep) (first | (go_at_call 30; refine (CA.out _ HB1).mono ?_; rintro e w2 ⟨l, rfl, HAL, ⟨k2, k3⟩, HB2⟩) | (go_at_call 29; refine (CN.out l _ HB2).mono ?_; rintro e w3 ⟨v3, rfl, ⟨k4, k5⟩, HR3⟩))
  go_wp2_with fail
  go_ret
  rw [HL.out l HAL.out]
  exact HR3.out
end Go.Proofs.YtmjnllldjeeigaaDoor

/- The walks of Ahead and Behind, of Ready and Undo. -/
set_option linter.unusedVariables false
set_option maxRecDepth 100000
namespace Go.Proofs.YtmjnllldjeeigaaDoor
open Go.RowKit CheckMath
open Go.Proofs.YtmjnllldjeeigaaDoor.Nm

theorem gl_nl {g n : Nat} {l : Nat → Bool} (hn : n ≤ 8) (h : ∀ j, g.testBit j = true ↔ j < n ∧ l j = true) : gl g 8 = nl l n := by
  unfold gl nl
  have e : ∀ m, m ≤ 8 - n → (List.range (n + m)).filter (fun i => g.testBit i) = (List.range n).filter l := by
    intro m
    induction m with
    | zero =>
      intro _
      refine List.filter_congr fun j hj => ?_
      rw [Bool.eq_iff_iff, h j]
      have : j < n := List.mem_range.1 hj
      simp [this]
    | succ m ih =>
      intro hm
      rw [show n + (m + 1) = n + m + 1 by omega, List.range_succ, List.filter_append, ih (by omega)]
      have : g.testBit (n + m) = false := by
        cases e : g.testBit (n + m) with
        | false => rfl
        | true => have := ((h _).1 e).1; omega
      simp [this]
  have := e (8 - n) (Nat.le_refl _)
  rwa [show n + (8 - n) = 8 by omega] at this
noncomputable def behindL (D : DefD) (i : Int) : List Nat := if tt (InD D i) = true then nl (fun b => tt (AheadP D.steps b i.toNat)) D.steps.length else []
theorem inD_web {D : DefD} {n : Nat} {A : Nat → Nat} (h : WebOf D n A) (i : Int) : InD D i ↔ 0 ≤ i ∧ i < n := by
  rcases h.2.2 with ⟨hF, rfl, _⟩ | ⟨hF, rfl⟩
  · exact ⟨fun h => h.2, fun h => ⟨hF, h⟩⟩
  · exact ⟨fun h => absurd h.1 hF, fun h => by omega⟩
theorem web_ahead {D : DefD} {n : Nat} {A : Nat → Nat} (h : WebOf D n A) {i : Nat} (hi : i < n) : gl (A i) 8 = aheadL D (i : Int) := by
  obtain ⟨hF, hl⟩ := h.inD hi
  have hin : InD D (i : Int) := (inD_web h _).2 ⟨by omega, by omega⟩
  rw [aheadL_yes hin, Int.toNat_natCast]
  refine gl_nl hF.few fun j => ?_
  rw [h.bit hi j, tt_iff]
  exact ⟨fun h => ⟨aheadP_lt h, h⟩, fun h => h.2⟩
theorem web_behind {D : DefD} {n : Nat} {A : Nat → Nat} (h : WebOf D n A) {i : Nat} (hi : i < n) : gl (behindG A i n) 8 = behindL D (i : Int) := by
  obtain ⟨hF, hl⟩ := h.inD hi
  have hin : InD D (i : Int) := (inD_web h _).2 ⟨by omega, by omega⟩
  have hn : n = D.steps.length := by
    rcases h.2.2 with ⟨_, e, _⟩ | ⟨e, _⟩
    · exact e
    · exact absurd hF e
  unfold behindL
  rw [if_pos (tt_yes hin), Int.toNat_natCast]
  refine gl_nl hF.few fun j => ?_
  rw [behindG_bit, tt_iff, hn]
  constructor
  · rintro ⟨h1, h2⟩
    exact ⟨h1, (h.bit (by omega) i).1 h2⟩
  · rintro ⟨h1, h2⟩
    exact ⟨h1, (h.bit (by omega) i).2 h2⟩

set_option maxHeartbeats 2000000 in
theorem ahead_any (v : Value) (D : DefD) (i : Int) (w : World) (h : DefIn w v D) (hT : Tabs w) : Calls Tryd.prog 9 #[v, .int .i64 i] w fun e w' => RowOf w (aheadL D i) e w' := by
  have CX : Hid (∀ wq, Below w.heap.size w wq → Calls Tryd.prog 24 #[v] wq fun e w' => ∃ n A, e = .returned (webV n A) ∧ WebOf D n A ∧ Below wq.heap.size wq w') := fun wq hq => weave_any v D wq (h.below hq) (Utf8Tabs_below hT hq)
  obtain ⟨sv, rfl, hd⟩ := h
  obtain ⟨ao, cap, rfl, hcap, _, hlen, _⟩ := hd
  have HB0 : Hid (Below w.heap.size w (w.alloc (.cells #[.string D.name, .slice ao D.steps.length cap] 24))) := (Below.refl _ _).alloc (Nat.le_refl _) _
  clear hT
  go_enter Tryd.func9, Tryd.ntmps9
  go_wp2_with fail
  refine (CX.out _ HB0.out).mono ?_
  rintro e w1 ⟨n, A, rfl, hweb, hb1⟩
  have HWO : Hid (WebOf D n A) := hweb
  have HB1 : Hid (Below w.heap.size w w1) := HB0.out.trans (hb1.mono HB0.out.size)
  have CH : Hid (∀ wq, Calls Tryd.prog 25 #[webV n A, .int .i64 i] wq fun e w' => e = .returned (.bool (decide (0 ≤ i ∧ i < n))) ∧ Below wq.heap.size wq w') := fun wq => hasStep_any n A i wq
  have HS2 : Hid (Has w1.heap.size w1 [BlockR w1.heap.size (webL n A)] (w1.alloc (.cells (webC n A) 50))) := (Has.start w1).box (webL n A) 50
  clear CX hb1 hweb HB0
  unfold webV webC at *
  go_wp2_with fail
  refine (CH.out _).mono ?_
  rintro e w3 ⟨rfl, hb3⟩
  have HS3 := HS2.out.below hb3
  have HB3 : Hid (Below w.heap.size w w3) := HB1.out.trans (HS3.bel.mono HB1.out.size)
  by_cases hin : 0 ≤ i ∧ i < n
  · obtain ⟨k, rfl⟩ : ∃ k : Nat, i = (k : Int) := ⟨i.toNat, by omega⟩
    have hk : k < n := by omega
    have hk8 : (k : Int) < 8 := by have := HWO.out.1; omega
    obtain ⟨c1, _⟩ := HS3.cell List.mem_cons_self (1 + k) _ (webL_at n A k (by omega))
    rw [decide_eq_true hin]
    have CL : Hid (Calls Tryd.prog 26 #[.int .u64 (A k : Int)] w3 fun e w' => ∃ v, e = .returned v ∧ w'.ownsRow w3.heap.size 3 1 v (aheadL D (k : Int)).length ((aheadL D (k : Int)).map nV) ∧ Below w3.heap.size w3 w') := by
      have := gList_any (A k) (HWO.out.2.1 k (by omega)) w3
      rw [web_ahead HWO.out hk] at this
      exact this
    clear hb3 HS3 HS2 CH hin
    go_wp2_with fail
    refine CL.out.mono ?_
    rintro e w4 ⟨v4, rfl, hown, hb4⟩
    have HR : Hid (w4.ownsRow w.heap.size 3 1 v4 (aheadL D (k : Int)).length ((aheadL D (k : Int)).map nV)) := own_base hown HB3.out.size
    have HB4 : Hid (Below w.heap.size w w4) := HB3.out.trans (hb4.mono HB3.out.size)
    clear hown hb4
    go_wp2_with fail
    go_ret
    exact ⟨_, rfl, HR.out, HB4.out⟩
  · have HE : Hid (aheadL D i = []) := aheadL_no (fun h => hin ((inD_web HWO.out i).1 h))
    rw [decide_eq_false hin]
    clear hb3 HS3 HS2 CH hin
    go_wp2_with fail
    go_ret
    rw [HE.out]
    exact rowOf_nil w w3 HB3.out

set_option maxHeartbeats 2000000 in
theorem behind_any (v : Value) (D : DefD) (i : Int) (w : World) (h : DefIn w v D) (hT : Tabs w) : Calls Tryd.prog 10 #[v, .int .i64 i] w fun e w' => RowOf w (behindL D i) e w' := by
  have CX : Hid (∀ wq, Below w.heap.size w wq → Calls Tryd.prog 24 #[v] wq fun e w' => ∃ n A, e = .returned (webV n A) ∧ WebOf D n A ∧ Below wq.heap.size wq w') := fun wq hq => weave_any v D wq (h.below hq) (Utf8Tabs_below hT hq)
  obtain ⟨sv, rfl, hd⟩ := h
  obtain ⟨ao, cap, rfl, hcap, _, hlen, _⟩ := hd
  have HB0 : Hid (Below w.heap.size w (w.alloc (.cells #[.string D.name, .slice ao D.steps.length cap] 24))) := (Below.refl _ _).alloc (Nat.le_refl _) _
  clear hT
  go_enter Tryd.func10, Tryd.ntmps10
  go_wp2_with fail
  refine (CX.out _ HB0.out).mono ?_
  rintro e w1 ⟨n, A, rfl, hweb, hb1⟩
  have HWO : Hid (WebOf D n A) := hweb
  have HB1 : Hid (Below w.heap.size w w1) := HB0.out.trans (hb1.mono HB0.out.size)
  have CH : Hid (∀ wq, Calls Tryd.prog 25 #[webV n A, .int .i64 i] wq fun e w' => e = .returned (.bool (decide (0 ≤ i ∧ i < n))) ∧ Below wq.heap.size wq w') := fun wq => hasStep_any n A i wq
  have HS2 : Hid (Has w1.heap.size w1 [BlockR w1.heap.size (webL n A)] (w1.alloc (.cells (webC n A) 50))) := (Has.start w1).box (webL n A) 50
  clear CX hb1 hweb HB0
  unfold webV webC at *
  go_wp2_with fail
  refine (CH.out _).mono ?_
  rintro e w3 ⟨rfl, hb3⟩
  have HS3 := HS2.out.below hb3
  have HB3 : Hid (Below w.heap.size w w3) := HB1.out.trans (HS3.bel.mono HB1.out.size)
  by_cases hin : 0 ≤ i ∧ i < n
  · obtain ⟨k, rfl⟩ : ∃ k : Nat, i = (k : Int) := ⟨i.toNat, by omega⟩
    have hk : k < n := by omega
    have hk8 : (k : Int) < 8 := by have := HWO.out.1; omega
    have hcell := fun (j : Nat) (u : Value) (hu : (webL n A)[j]? = some u) => (HS3.cell List.mem_cons_self j u hu).1
    have q0 := hcell 0 _ rfl
    have q1 := hcell 1 _ rfl
    have q2 := hcell 2 _ rfl
    have q3 := hcell 3 _ rfl
    have q4 := hcell 4 _ rfl
    have q5 := hcell 5 _ rfl
    have q6 := hcell 6 _ rfl
    have q7 := hcell 7 _ rfl
    have q8 := hcell 8 _ rfl
    rw [decide_eq_true hin]
    have CB : Hid (Calls Tryd.prog 27 #[.agg #[.int .i64 (n : Int), .int .u64 (A 0 : Int), .int .u64 (A 1 : Int), .int .u64 (A 2 : Int), .int .u64 (A 3 : Int), .int .u64 (A 4 : Int), .int .u64 (A 5 : Int), .int .u64 (A 6 : Int), .int .u64 (A 7 : Int)], .int .i64 (k : Int)] w3 fun e w' => e = .returned (.int .u64 (behindG A k n : Int)) ∧ Below w3.heap.size w3 w') := behind_web n A HWO.out.1 HWO.out.2.1 k (by omega) w3
    have CL : Hid (∀ wq, Calls Tryd.prog 26 #[.int .u64 (behindG A k n : Int)] wq fun e w' => ∃ v, e = .returned v ∧ w'.ownsRow wq.heap.size 3 1 v (behindL D (k : Int)).length ((behindL D (k : Int)).map nV) ∧ Below wq.heap.size wq w') := fun wq => by
      have := gList_any (behindG A k n) (behindG_lt A k n HWO.out.1) wq
      rw [web_behind HWO.out hk] at this
      exact this
    clear hb3 HS3 HS2 CH hin hcell
    go_wp2_with fail
    refine CB.out.mono ?_
    rintro e w5 ⟨rfl, hb5⟩
    have HB5 : Hid (Below w.heap.size w w5) := HB3.out.trans (hb5.mono HB3.out.size)
    clear hb5 q0 q1 q2 q3 q4 q5 q6 q7 q8
    go_wp2_with fail
    refine (CL.out _).mono ?_
    rintro e w4 ⟨v4, rfl, hown, hb4⟩
    have HR : Hid (w4.ownsRow w.heap.size 3 1 v4 (behindL D (k : Int)).length ((behindL D (k : Int)).map nV)) := own_base hown HB5.out.size
    have HB4 : Hid (Below w.heap.size w w4) := HB5.out.trans (hb4.mono HB5.out.size)
    clear hown hb4
    go_wp2_with fail
    go_ret
    exact ⟨_, rfl, HR.out, HB4.out⟩
  · have HE : Hid (behindL D i = []) := (by show _ = _; unfold behindL; rw [tt_no (fun h => hin ((inD_web HWO.out i).1 h))]; rfl)
    rw [decide_eq_false hin]
    clear hb3 HS3 HS2 CH hin
    go_wp2_with fail
    go_ret
    rw [HE.out]
    exact rowOf_nil w w3 HB3.out
end Go.Proofs.YtmjnllldjeeigaaDoor

/- The walk of stand's undo. -/
set_option linter.unusedVariables false
set_option maxRecDepth 100000
namespace Go.Proofs.YtmjnllldjeeigaaDoor
open Go.RowKit CheckMath
open Go.Proofs.YtmjnllldjeeigaaDoor.Nm

def OpenG (st : List Int) : Nat → Prop := fun k => OpenS (needAt st k)
def UndoS (a : Nat → Nat) (n : Nat) (st : List Int) (i : Nat) : Prop := OpenS (needAt st i) ∧ ¬ ∃ j, (behindG a i n).testBit j = true ∧ (thoseG (OpenG st) n).testBit j = true
set_option maxHeartbeats 4000000 in
theorem undo_any (a : Nat → Nat) (st : List Int) (hn : st.length ≤ 8) (ha : ∀ i, i < 8 → a i < 256) (so : Option Addr) (sc : Nat) (i : Nat) (hi : i < st.length) (w : World) (h : IRow w (.slice so st.length sc) st) :
    Calls Tryd.prog 36 #[standV st.length a so st.length sc, .int .i64 (i : Int)] w fun e w' => e = .returned (.bool (tt (UndoS a st.length st i))) ∧ Below w.heap.size w w' := by
  have HI : Hid (IRow w (.slice so st.length sc) st) := h
  have HS0 : Hid (Has w.heap.size w [BlockR w.heap.size (standL st.length a so st.length sc)] (w.alloc (.cells #[.int .i64 (st.length : Int), .int .u64 (a 0 : Int), .int .u64 (a 1 : Int), .int .u64 (a 2 : Int), .int .u64 (a 3 : Int), .int .u64 (a 4 : Int), .int .u64 (a 5 : Int), .int .u64 (a 6 : Int), .int .u64 (a 7 : Int), .slice so st.length sc] 61))) := (Has.start w).box (standL st.length a so st.length sc) 61
  have HW : Hid (∀ wq, Below (w.alloc (.cells #[.int .i64 (st.length : Int), .int .u64 (a 0 : Int), .int .u64 (a 1 : Int), .int .u64 (a 2 : Int), .int .u64 (a 3 : Int), .int .u64 (a 4 : Int), .int .u64 (a 5 : Int), .int .u64 (a 6 : Int), .int .u64 (a 7 : Int), .slice so st.length sc] 61)).heap.size (w.alloc (.cells #[.int .i64 (st.length : Int), .int .u64 (a 0 : Int), .int .u64 (a 1 : Int), .int .u64 (a 2 : Int), .int .u64 (a 3 : Int), .int .u64 (a 4 : Int), .int .u64 (a 5 : Int), .int .u64 (a 6 : Int), .int .u64 (a 7 : Int), .slice so st.length sc] 61)) wq → Below w.heap.size w wq ∧ wq.cell? ⟨w.heap.size, 0, none⟩ = some (.int .i64 (st.length : Int)) ∧ wq.cell? ⟨w.heap.size, 1, none⟩ = some (.int .u64 (a 0 : Int)) ∧ wq.cell? ⟨w.heap.size, 2, none⟩ = some (.int .u64 (a 1 : Int)) ∧ wq.cell? ⟨w.heap.size, 3, none⟩ = some (.int .u64 (a 2 : Int)) ∧ wq.cell? ⟨w.heap.size, 4, none⟩ = some (.int .u64 (a 3 : Int)) ∧ wq.cell? ⟨w.heap.size, 5, none⟩ = some (.int .u64 (a 4 : Int)) ∧ wq.cell? ⟨w.heap.size, 6, none⟩ = some (.int .u64 (a 5 : Int)) ∧ wq.cell? ⟨w.heap.size, 7, none⟩ = some (.int .u64 (a 6 : Int)) ∧ wq.cell? ⟨w.heap.size, 8, none⟩ = some (.int .u64 (a 7 : Int)) ∧ wq.cell? ⟨w.heap.size, 9, none⟩ = some (.slice so st.length sc)) := fun wq hq => by
    have hh := HS0.out.below hq
    have hc := fun (j : Nat) (u : Value) (hu : (standL st.length a so st.length sc)[j]? = some u) => (hh.cell List.mem_cons_self j u hu).1
    exact ⟨hh.bel, hc 0 _ rfl, hc 1 _ rfl, hc 2 _ rfl, hc 3 _ rfl, hc 4 _ rfl, hc 5 _ rfl, hc 6 _ rfl, hc 7 _ rfl, hc 8 _ rfl, hc 9 _ rfl⟩
  have HB0 : Hid (Below (w.alloc (.cells #[.int .i64 (st.length : Int), .int .u64 (a 0 : Int), .int .u64 (a 1 : Int), .int .u64 (a 2 : Int), .int .u64 (a 3 : Int), .int .u64 (a 4 : Int), .int .u64 (a 5 : Int), .int .u64 (a 6 : Int), .int .u64 (a 7 : Int), .slice so st.length sc] 61)).heap.size (w.alloc (.cells #[.int .i64 (st.length : Int), .int .u64 (a 0 : Int), .int .u64 (a 1 : Int), .int .u64 (a 2 : Int), .int .u64 (a 3 : Int), .int .u64 (a 4 : Int), .int .u64 (a 5 : Int), .int .u64 (a 6 : Int), .int .u64 (a 7 : Int), .slice so st.length sc] 61)) (w.alloc (.cells #[.int .i64 (st.length : Int), .int .u64 (a 0 : Int), .int .u64 (a 1 : Int), .int .u64 (a 2 : Int), .int .u64 (a 3 : Int), .int .u64 (a 4 : Int), .int .u64 (a 5 : Int), .int .u64 (a 6 : Int), .int .u64 (a 7 : Int), .slice so st.length sc] 61)).drew) := ⟨rfl, rfl, rfl, Nat.le_refl _, fun _ _ => rfl⟩
  have C1 : Hid (∀ wq, Below (w.alloc (.cells #[.int .i64 (st.length : Int), .int .u64 (a 0 : Int), .int .u64 (a 1 : Int), .int .u64 (a 2 : Int), .int .u64 (a 3 : Int), .int .u64 (a 4 : Int), .int .u64 (a 5 : Int), .int .u64 (a 6 : Int), .int .u64 (a 7 : Int), .slice so st.length sc] 61)).heap.size (w.alloc (.cells #[.int .i64 (st.length : Int), .int .u64 (a 0 : Int), .int .u64 (a 1 : Int), .int .u64 (a 2 : Int), .int .u64 (a 3 : Int), .int .u64 (a 4 : Int), .int .u64 (a 5 : Int), .int .u64 (a 6 : Int), .int .u64 (a 7 : Int), .slice so st.length sc] 61)) wq → Calls Tryd.prog 51 #[.agg #[.int .i64 (st.length : Int), .int .u64 (a 0 : Int), .int .u64 (a 1 : Int), .int .u64 (a 2 : Int), .int .u64 (a 3 : Int), .int .u64 (a 4 : Int), .int .u64 (a 5 : Int), .int .u64 (a 6 : Int), .int .u64 (a 7 : Int), .slice so st.length sc], .int .i64 (i : Int)] wq fun e w' => e = .returned (.bool (tt (OpenS (needAt st i)))) ∧ (w'.cell? ⟨w.heap.size, 0, none⟩ = some (.int .i64 (st.length : Int)) ∧ w'.cell? ⟨w.heap.size, 1, none⟩ = some (.int .u64 (a 0 : Int)) ∧ w'.cell? ⟨w.heap.size, 2, none⟩ = some (.int .u64 (a 1 : Int)) ∧ w'.cell? ⟨w.heap.size, 3, none⟩ = some (.int .u64 (a 2 : Int)) ∧ w'.cell? ⟨w.heap.size, 4, none⟩ = some (.int .u64 (a 3 : Int)) ∧ w'.cell? ⟨w.heap.size, 5, none⟩ = some (.int .u64 (a 4 : Int)) ∧ w'.cell? ⟨w.heap.size, 6, none⟩ = some (.int .u64 (a 5 : Int)) ∧ w'.cell? ⟨w.heap.size, 7, none⟩ = some (.int .u64 (a 6 : Int)) ∧ w'.cell? ⟨w.heap.size, 8, none⟩ = some (.int .u64 (a 7 : Int)) ∧ w'.cell? ⟨w.heap.size, 9, none⟩ = some (.slice so st.length sc)) ∧ Hid (Below (w.alloc (.cells #[.int .i64 (st.length : Int), .int .u64 (a 0 : Int), .int .u64 (a 1 : Int), .int .u64 (a 2 : Int), .int .u64 (a 3 : Int), .int .u64 (a 4 : Int), .int .u64 (a 5 : Int), .int .u64 (a 6 : Int), .int .u64 (a 7 : Int), .slice so st.length sc] 61)).heap.size (w.alloc (.cells #[.int .i64 (st.length : Int), .int .u64 (a 0 : Int), .int .u64 (a 1 : Int), .int .u64 (a 2 : Int), .int .u64 (a 3 : Int), .int .u64 (a 4 : Int), .int .u64 (a 5 : Int), .int .u64 (a 6 : Int), .int .u64 (a 7 : Int), .slice so st.length sc] 61)) w')) := fun wq hq => by
    have hb := (HW.out wq hq).1
    refine (open_any st.length a so sc st i hi wq (HI.out.below hb)).mono (fun e w' ⟨he, hb2⟩ => ?_)
    have hq2 := hq.trans (hb2.mono hq.size)
    exact ⟨he, (HW.out w' hq2).2, hq2⟩
  have C2 : Hid (∀ wq, Below (w.alloc (.cells #[.int .i64 (st.length : Int), .int .u64 (a 0 : Int), .int .u64 (a 1 : Int), .int .u64 (a 2 : Int), .int .u64 (a 3 : Int), .int .u64 (a 4 : Int), .int .u64 (a 5 : Int), .int .u64 (a 6 : Int), .int .u64 (a 7 : Int), .slice so st.length sc] 61)).heap.size (w.alloc (.cells #[.int .i64 (st.length : Int), .int .u64 (a 0 : Int), .int .u64 (a 1 : Int), .int .u64 (a 2 : Int), .int .u64 (a 3 : Int), .int .u64 (a 4 : Int), .int .u64 (a 5 : Int), .int .u64 (a 6 : Int), .int .u64 (a 7 : Int), .slice so st.length sc] 61)) wq → Calls Tryd.prog 27 #[.agg #[.int .i64 (st.length : Int), .int .u64 (a 0 : Int), .int .u64 (a 1 : Int), .int .u64 (a 2 : Int), .int .u64 (a 3 : Int), .int .u64 (a 4 : Int), .int .u64 (a 5 : Int), .int .u64 (a 6 : Int), .int .u64 (a 7 : Int)], .int .i64 (i : Int)] wq fun e w' => e = .returned (.int .u64 (behindG a i st.length : Int)) ∧ (w'.cell? ⟨w.heap.size, 0, none⟩ = some (.int .i64 (st.length : Int)) ∧ w'.cell? ⟨w.heap.size, 1, none⟩ = some (.int .u64 (a 0 : Int)) ∧ w'.cell? ⟨w.heap.size, 2, none⟩ = some (.int .u64 (a 1 : Int)) ∧ w'.cell? ⟨w.heap.size, 3, none⟩ = some (.int .u64 (a 2 : Int)) ∧ w'.cell? ⟨w.heap.size, 4, none⟩ = some (.int .u64 (a 3 : Int)) ∧ w'.cell? ⟨w.heap.size, 5, none⟩ = some (.int .u64 (a 4 : Int)) ∧ w'.cell? ⟨w.heap.size, 6, none⟩ = some (.int .u64 (a 5 : Int)) ∧ w'.cell? ⟨w.heap.size, 7, none⟩ = some (.int .u64 (a 6 : Int)) ∧ w'.cell? ⟨w.heap.size, 8, none⟩ = some (.int .u64 (a 7 : Int)) ∧ w'.cell? ⟨w.heap.size, 9, none⟩ = some (.slice so st.length sc)) ∧ Hid (Below (w.alloc (.cells #[.int .i64 (st.length : Int), .int .u64 (a 0 : Int), .int .u64 (a 1 : Int), .int .u64 (a 2 : Int), .int .u64 (a 3 : Int), .int .u64 (a 4 : Int), .int .u64 (a 5 : Int), .int .u64 (a 6 : Int), .int .u64 (a 7 : Int), .slice so st.length sc] 61)).heap.size (w.alloc (.cells #[.int .i64 (st.length : Int), .int .u64 (a 0 : Int), .int .u64 (a 1 : Int), .int .u64 (a 2 : Int), .int .u64 (a 3 : Int), .int .u64 (a 4 : Int), .int .u64 (a 5 : Int), .int .u64 (a 6 : Int), .int .u64 (a 7 : Int), .slice so st.length sc] 61)) w')) := fun wq hq => by
    have hb := (HW.out wq hq).1
    refine (behind_web st.length a hn ha i (by omega) wq).mono (fun e w' ⟨he, hb2⟩ => ?_)
    have hq2 := hq.trans (hb2.mono hq.size)
    exact ⟨he, (HW.out w' hq2).2, hq2⟩
  have C3 : Hid (∀ wq, Below (w.alloc (.cells #[.int .i64 (st.length : Int), .int .u64 (a 0 : Int), .int .u64 (a 1 : Int), .int .u64 (a 2 : Int), .int .u64 (a 3 : Int), .int .u64 (a 4 : Int), .int .u64 (a 5 : Int), .int .u64 (a 6 : Int), .int .u64 (a 7 : Int), .slice so st.length sc] 61)).heap.size (w.alloc (.cells #[.int .i64 (st.length : Int), .int .u64 (a 0 : Int), .int .u64 (a 1 : Int), .int .u64 (a 2 : Int), .int .u64 (a 3 : Int), .int .u64 (a 4 : Int), .int .u64 (a 5 : Int), .int .u64 (a 6 : Int), .int .u64 (a 7 : Int), .slice so st.length sc] 61)) wq → Calls Tryd.prog 34 #[.agg #[.int .i64 (st.length : Int), .int .u64 (a 0 : Int), .int .u64 (a 1 : Int), .int .u64 (a 2 : Int), .int .u64 (a 3 : Int), .int .u64 (a 4 : Int), .int .u64 (a 5 : Int), .int .u64 (a 6 : Int), .int .u64 (a 7 : Int)], .func (.func 51) #[.agg #[.int .i64 (st.length : Int), .int .u64 (a 0 : Int), .int .u64 (a 1 : Int), .int .u64 (a 2 : Int), .int .u64 (a 3 : Int), .int .u64 (a 4 : Int), .int .u64 (a 5 : Int), .int .u64 (a 6 : Int), .int .u64 (a 7 : Int), .slice so st.length sc]] #[]] wq fun e w' => e = .returned (.int .u64 (thoseG (OpenG st) st.length : Int)) ∧ (w'.cell? ⟨w.heap.size, 0, none⟩ = some (.int .i64 (st.length : Int)) ∧ w'.cell? ⟨w.heap.size, 1, none⟩ = some (.int .u64 (a 0 : Int)) ∧ w'.cell? ⟨w.heap.size, 2, none⟩ = some (.int .u64 (a 1 : Int)) ∧ w'.cell? ⟨w.heap.size, 3, none⟩ = some (.int .u64 (a 2 : Int)) ∧ w'.cell? ⟨w.heap.size, 4, none⟩ = some (.int .u64 (a 3 : Int)) ∧ w'.cell? ⟨w.heap.size, 5, none⟩ = some (.int .u64 (a 4 : Int)) ∧ w'.cell? ⟨w.heap.size, 6, none⟩ = some (.int .u64 (a 5 : Int)) ∧ w'.cell? ⟨w.heap.size, 7, none⟩ = some (.int .u64 (a 6 : Int)) ∧ w'.cell? ⟨w.heap.size, 8, none⟩ = some (.int .u64 (a 7 : Int)) ∧ w'.cell? ⟨w.heap.size, 9, none⟩ = some (.slice so st.length sc)) ∧ Hid (Below (w.alloc (.cells #[.int .i64 (st.length : Int), .int .u64 (a 0 : Int), .int .u64 (a 1 : Int), .int .u64 (a 2 : Int), .int .u64 (a 3 : Int), .int .u64 (a 4 : Int), .int .u64 (a 5 : Int), .int .u64 (a 6 : Int), .int .u64 (a 7 : Int), .slice so st.length sc] 61)).heap.size (w.alloc (.cells #[.int .i64 (st.length : Int), .int .u64 (a 0 : Int), .int .u64 (a 1 : Int), .int .u64 (a 2 : Int), .int .u64 (a 3 : Int), .int .u64 (a 4 : Int), .int .u64 (a 5 : Int), .int .u64 (a 6 : Int), .int .u64 (a 7 : Int), .slice so st.length sc] 61)) w')) := fun wq hq => by
    have hb := (HW.out wq hq).1
    refine (those_any _ (by simp) (OpenG st) _ st.length a hn wq (fun j wx hj hx => open_any st.length a so sc st j hj wx ((HI.out.below hb).below hx))).mono (fun e w' ⟨he, hb2⟩ => ?_)
    have hq2 := hq.trans (hb2.mono hq.size)
    exact ⟨he, (HW.out w' hq2).2, hq2⟩
  have C4 : Hid (∀ wq, Below (w.alloc (.cells #[.int .i64 (st.length : Int), .int .u64 (a 0 : Int), .int .u64 (a 1 : Int), .int .u64 (a 2 : Int), .int .u64 (a 3 : Int), .int .u64 (a 4 : Int), .int .u64 (a 5 : Int), .int .u64 (a 6 : Int), .int .u64 (a 7 : Int), .slice so st.length sc] 61)).heap.size (w.alloc (.cells #[.int .i64 (st.length : Int), .int .u64 (a 0 : Int), .int .u64 (a 1 : Int), .int .u64 (a 2 : Int), .int .u64 (a 3 : Int), .int .u64 (a 4 : Int), .int .u64 (a 5 : Int), .int .u64 (a 6 : Int), .int .u64 (a 7 : Int), .slice so st.length sc] 61)) wq → Calls Tryd.prog 52 #[.int .u64 (behindG a i st.length : Int), .int .u64 (thoseG (OpenG st) st.length : Int)] wq fun e w' => e = .returned (.bool (tt (∃ j, (behindG a i st.length).testBit j = true ∧ (thoseG (OpenG st) st.length).testBit j = true))) ∧ (w'.cell? ⟨w.heap.size, 0, none⟩ = some (.int .i64 (st.length : Int)) ∧ w'.cell? ⟨w.heap.size, 1, none⟩ = some (.int .u64 (a 0 : Int)) ∧ w'.cell? ⟨w.heap.size, 2, none⟩ = some (.int .u64 (a 1 : Int)) ∧ w'.cell? ⟨w.heap.size, 3, none⟩ = some (.int .u64 (a 2 : Int)) ∧ w'.cell? ⟨w.heap.size, 4, none⟩ = some (.int .u64 (a 3 : Int)) ∧ w'.cell? ⟨w.heap.size, 5, none⟩ = some (.int .u64 (a 4 : Int)) ∧ w'.cell? ⟨w.heap.size, 6, none⟩ = some (.int .u64 (a 5 : Int)) ∧ w'.cell? ⟨w.heap.size, 7, none⟩ = some (.int .u64 (a 6 : Int)) ∧ w'.cell? ⟨w.heap.size, 8, none⟩ = some (.int .u64 (a 7 : Int)) ∧ w'.cell? ⟨w.heap.size, 9, none⟩ = some (.slice so st.length sc)) ∧ Hid (Below (w.alloc (.cells #[.int .i64 (st.length : Int), .int .u64 (a 0 : Int), .int .u64 (a 1 : Int), .int .u64 (a 2 : Int), .int .u64 (a 3 : Int), .int .u64 (a 4 : Int), .int .u64 (a 5 : Int), .int .u64 (a 6 : Int), .int .u64 (a 7 : Int), .slice so st.length sc] 61)).heap.size (w.alloc (.cells #[.int .i64 (st.length : Int), .int .u64 (a 0 : Int), .int .u64 (a 1 : Int), .int .u64 (a 2 : Int), .int .u64 (a 3 : Int), .int .u64 (a 4 : Int), .int .u64 (a 5 : Int), .int .u64 (a 6 : Int), .int .u64 (a 7 : Int), .slice so st.length sc] 61)) w')) := fun wq hq => by
    have hb := (HW.out wq hq).1
    refine (gMeets_any _ _ (behindG_lt a i _ hn) (thoseG_lt _ st.length hn) wq).mono (fun e w' ⟨he, hw⟩ => ?_)
    rw [hw]
    exact ⟨he, (HW.out wq hq).2, hq⟩
  obtain ⟨_, n0, n1, n2, n3, n4, n5, n6, n7, n8, n9⟩ := HW.out _ HB0.out
  simp only [World.cell?_drew] at n0 n1 n2 n3 n4 n5 n6 n7 n8 n9
  have HWB : Hid (∀ wq, Below (w.alloc (.cells #[.int .i64 (st.length : Int), .int .u64 (a 0 : Int), .int .u64 (a 1 : Int), .int .u64 (a 2 : Int), .int .u64 (a 3 : Int), .int .u64 (a 4 : Int), .int .u64 (a 5 : Int), .int .u64 (a 6 : Int), .int .u64 (a 7 : Int), .slice so st.length sc] 61)).heap.size (w.alloc (.cells #[.int .i64 (st.length : Int), .int .u64 (a 0 : Int), .int .u64 (a 1 : Int), .int .u64 (a 2 : Int), .int .u64 (a 3 : Int), .int .u64 (a 4 : Int), .int .u64 (a 5 : Int), .int .u64 (a 6 : Int), .int .u64 (a 7 : Int), .slice so st.length sc] 61)) wq → Below w.heap.size w wq) := fun wq hq => (HW.out wq hq).1
  clear HS0 HI HW h
  unfold standV standC
  have HBG : Hid (UndoS a st.length st i = (OpenS (needAt st i) ∧ ¬ ∃ j, (behindG a i st.length).testBit j = true ∧ (thoseG (OpenG st) st.length).testBit j = true)) := rfl
  generalize behindG a i st.length = bg at *
  have HU : Hid (UndoS a st.length st i = (OpenS (needAt st i) ∧ ¬ ∃ j, bg.testBit j = true ∧ (thoseG (OpenG st) st.length).testBit j = true)) := HBG.out
  generalize thoseG (OpenG st) st.length = tg at *
  by_cases hz : OpenS (needAt st i)
  · have HT : Hid (tt (UndoS a st.length st i) = !tt (∃ j, bg.testBit j = true ∧ tg.testBit j = true)) := by
      show _ = _
      rw [HU.out]
      by_cases hm : ∃ j, bg.testBit j = true ∧ tg.testBit j = true
      · rw [tt_yes hm, tt_no (fun h => h.2 hm)]; rfl
      · rw [tt_no hm, tt_yes ⟨hz, hm⟩]; rfl
    rw [tt_yes hz] at C1
    clear hz HU HBG
    go_enter Tryd.func36, Tryd.ntmps36
    go_wp2_with fail
    generalize (w.alloc (.cells #[.int .i64 (st.length : Int), .int .u64 (a 0 : Int), .int .u64 (a 1 : Int), .int .u64 (a 2 : Int), .int .u64 (a 3 : Int), .int .u64 (a 4 : Int), .int .u64 (a 5 : Int), .int .u64 (a 6 : Int), .int .u64 (a 7 : Int), .slice so st.length sc] 61)) = w0 at *
    go_region_held3 (fun w' => w'.cell? ⟨w.heap.size, 0, none⟩ = some (.int .i64 (st.length : Int)) ∧ w'.cell? ⟨w.heap.size, 1, none⟩ = some (.int .u64 (a 0 : Int)) ∧ w'.cell? ⟨w.heap.size, 2, none⟩ = some (.int .u64 (a 1 : Int)) ∧ w'.cell? ⟨w.heap.size, 3, none⟩ = some (.int .u64 (a 2 : Int)) ∧ w'.cell? ⟨w.heap.size, 4, none⟩ = some (.int .u64 (a 3 : Int)) ∧ w'.cell? ⟨w.heap.size, 5, none⟩ = some (.int .u64 (a 4 : Int)) ∧ w'.cell? ⟨w.heap.size, 6, none⟩ = some (.int .u64 (a 5 : Int)) ∧ w'.cell? ⟨w.heap.size, 7, none⟩ = some (.int .u64 (a 6 : Int)) ∧ w'.cell? ⟨w.heap.size, 8, none⟩ = some (.int .u64 (a 7 : Int)) ∧ w'.cell? ⟨w.heap.size, 9, none⟩ = some (.slice so st.length sc)) (go_keep) (first | (go_at_call 51; refine (C1.out _ HB0.out).mono ?_; rintro e w1 ⟨rfl, ⟨m0, m1, m2, m3, m4, m5, m6, m7, m8, m9⟩, HB1⟩) | (go_at_call 27; refine (C2.out _ (by assumption)).mono ?_; rintro e w2 ⟨rfl, ⟨m0, m1, m2, m3, m4, m5, m6, m7, m8, m9⟩, HB2⟩) | (go_at_call 34; refine (C3.out _ (by assumption)).mono ?_; rintro e w3 ⟨rfl, ⟨m0, m1, m2, m3, m4, m5, m6, m7, m8, m9⟩, HB3⟩) | (go_at_call 52; refine (C4.out _ (by assumption)).mono ?_; rintro e w4 ⟨rfl, ⟨m0, m1, m2, m3, m4, m5, m6, m7, m8, m9⟩, HB4⟩))
    all_goals go_wp2_with fail
    all_goals go_ret
    all_goals exact ⟨by rw [HT.out]; rfl, HWB.out _ HB4.out⟩
  · have HT : Hid (tt (UndoS a st.length st i) = false) := by
      show _ = _
      rw [HU.out]
      exact tt_no (fun h => hz h.1)
    rw [tt_no hz] at C1
    clear hz HU HBG C2 C3 C4
    go_enter Tryd.func36, Tryd.ntmps36
    go_wp2_with fail
    generalize (w.alloc (.cells #[.int .i64 (st.length : Int), .int .u64 (a 0 : Int), .int .u64 (a 1 : Int), .int .u64 (a 2 : Int), .int .u64 (a 3 : Int), .int .u64 (a 4 : Int), .int .u64 (a 5 : Int), .int .u64 (a 6 : Int), .int .u64 (a 7 : Int), .slice so st.length sc] 61)) = w0 at *
    refine wp_region_any (by kernel_rfl) ?_
    change wpAny _ _ _ _ _ _ _ (World.drew _)
    refine wpAny_take (i := 1) (v := .int .i64 (i : Int)) rfl (by decide +kernel) (by decide +kernel) (by decide +kernel) (fun _ _ _ h => h) (Or.inl ⟨by rfl, fun w => by go_simp⟩) ?_
    refine any_one (i := 0) (by decide +kernel) ?_
    refine op_value (v := .agg #[.int .i64 (st.length : Int), .int .u64 (a 0 : Int), .int .u64 (a 1 : Int), .int .u64 (a 2 : Int), .int .u64 (a 3 : Int), .int .u64 (a 4 : Int), .int .u64 (a 5 : Int), .int .u64 (a 6 : Int), .int .u64 (a 7 : Int), .slice so st.length sc]) (w' := w0.drew) rfl (by rfl) (by go_simp) ?_
    refine any_one (i := 2) (by decide +kernel) ?_
    refine op_call (f := 51) (args := #[.agg #[.int .i64 (st.length : Int), .int .u64 (a 0 : Int), .int .u64 (a 1 : Int), .int .u64 (a 2 : Int), .int .u64 (a 3 : Int), .int .u64 (a 4 : Int), .int .u64 (a 5 : Int), .int .u64 (a 6 : Int), .int .u64 (a 7 : Int), .slice so st.length sc], .int .i64 (i : Int)]) (w' := w0.drew) rfl (by rfl) (by go_simp) (C1.out _ HB0.out) ?_
    rintro e w1 ⟨rfl, ⟨m0, m1, m2, m3, m4, m5, m6, m7, m8, m9⟩, HB1⟩
    refine ⟨_, rfl, ?_⟩
    refine wpAny_take (i := 3) (v := .bool false) rfl (by decide +kernel) (by decide +kernel) (by decide +kernel) (fun _ _ _ h => h) (Or.inl ⟨by rfl, fun w => by go_simp⟩) ?_
    refine wpAny_take (i := 4) (v := undef) rfl (by decide +kernel) (by decide +kernel) (by decide +kernel) (fun _ _ _ h => h) (Or.inr ⟨by go_simp, rfl⟩) ?_
    refine wpAny_take (i := 5) (v := undef) rfl (by decide +kernel) (by decide +kernel) (by decide +kernel) (fun _ _ _ h => h) (Or.inr ⟨by go_simp, rfl⟩) ?_
    refine wpAny_take (i := 6) (v := undef) rfl (by decide +kernel) (by decide +kernel) (by decide +kernel) (fun _ _ _ h => h) (Or.inr ⟨by go_simp, rfl⟩) ?_
    refine wpAny_take (i := 7) (v := undef) rfl (by decide +kernel) (by decide +kernel) (by decide +kernel) (fun _ _ _ h => h) (Or.inr ⟨by go_simp, rfl⟩) ?_
    refine wpAny_take (i := 8) (v := undef) rfl (by decide +kernel) (by decide +kernel) (by decide +kernel) (fun _ _ _ h => h) (Or.inr ⟨by go_simp, rfl⟩) ?_
    refine wpAny_take (i := 9) (v := undef) rfl (by decide +kernel) (by decide +kernel) (by decide +kernel) (fun _ _ _ h => h) (Or.inr ⟨by go_simp, rfl⟩) ?_
    refine wpAny_take (i := 10) (v := undef) rfl (by decide +kernel) (by decide +kernel) (by decide +kernel) (fun _ _ _ h => h) (Or.inr ⟨by go_simp, rfl⟩) ?_
    refine wpAny_take (i := 11) (v := undef) rfl (by decide +kernel) (by decide +kernel) (by decide +kernel) (fun _ _ _ h => h) (Or.inr ⟨by go_simp, rfl⟩) ?_
    refine wpAny_take (i := 12) (v := undef) rfl (by decide +kernel) (by decide +kernel) (by decide +kernel) (fun _ _ _ h => h) (Or.inr ⟨by go_simp, rfl⟩) ?_
    refine wpAny_take (i := 13) (v := undef) rfl (by decide +kernel) (by decide +kernel) (by decide +kernel) (fun _ _ _ h => h) (Or.inr ⟨by go_simp, rfl⟩) ?_
    refine wpAny_take (i := 14) (v := undef) rfl (by decide +kernel) (by decide +kernel) (by decide +kernel) (fun _ _ _ h => h) (Or.inr ⟨by go_simp, rfl⟩) ?_
    refine wpAny_take (i := 15) (v := .bool false) rfl (by decide +kernel) (by decide +kernel) (by decide +kernel) (fun _ _ _ h => h) (Or.inl ⟨by rfl, fun w => by go_simp⟩) ?_
    refine wpAny_take (i := 16) (v := .bool false) rfl (by decide +kernel) (by decide +kernel) (by decide +kernel) (fun _ _ _ h => h) (Or.inl ⟨by rfl, fun w => by go_simp⟩) ?_
    refine wpAny_done (by decide +kernel) ?_ _
    go_wp2_with fail
    go_ret
    rw [HT.out]
    have hb := HWB.out _ HB1.out
    clear HWB HB1 HT
    refine ⟨by kernel_rfl, hb⟩
end Go.Proofs.YtmjnllldjeeigaaDoor

/- The walks of Ready and Undo. -/
set_option linter.unusedVariables false
set_option maxRecDepth 100000
namespace Go.Proofs.YtmjnllldjeeigaaDoor
open Go.RowKit CheckMath
open Go.Proofs.YtmjnllldjeeigaaDoor.Nm

/-- What Ready and Undo tell. -/
def ReadyP (D : DefD) (st : List Int) (i : Nat) : Prop := needAt st i = 0 ∧ ∀ j, AheadP D.steps i j → needAt st j = 2
def UndoP (D : DefD) (st : List Int) (i : Nat) : Prop := OpenS (needAt st i) ∧ ∀ j, AheadP D.steps j i → ¬ OpenS (needAt st j)
noncomputable def readyL (D : DefD) (st : List Int) : List Nat := if tt (Fine D ∧ FitS D.steps.length st) = true then nl (fun i => tt (ReadyP D st i)) D.steps.length else []
noncomputable def undoL (D : DefD) (st : List Int) : List Nat := if tt (Fine D ∧ FitS D.steps.length st) = true then nl (fun i => tt (UndoP D st i)) D.steps.length else []
theorem gl_zero : gl 0 8 = [] := by decide
theorem web_ready {D : DefD} {n : Nat} {A : Nat → Nat} (h : WebOf D n A) {st : List Int} (hf : FitS n st) : gl (thoseG (ReadyS A n st) n) 8 = readyL D st := by
  rcases h.2.2 with ⟨hF, rfl, _⟩ | ⟨hF, rfl⟩
  · unfold readyL
    rw [if_pos (tt_yes ⟨hF, hf⟩)]
    refine gl_nl hF.few fun i => ?_
    rw [thoseG_bit, tt_iff]
    refine and_congr_right fun hi => and_congr_right fun _ => ⟨fun hh j hj => ?_, fun hh j hj => ?_⟩
    · exact ((thoseG_bit _ _ _).1 (hh j ((h.bit hi j).2 hj))).2
    · have ha := (h.bit hi j).1 hj
      exact (thoseG_bit _ _ _).2 ⟨aheadP_lt ha, hh j ha⟩
  · unfold readyL
    rw [if_neg (by rw [tt_no (fun hh => hF hh.1)]; simp)]
    exact gl_zero
theorem web_undo {D : DefD} {n : Nat} {A : Nat → Nat} (h : WebOf D n A) {st : List Int} (hf : FitS n st) : gl (thoseG (UndoS A n st) n) 8 = undoL D st := by
  rcases h.2.2 with ⟨hF, rfl, _⟩ | ⟨hF, rfl⟩
  · unfold undoL
    rw [if_pos (tt_yes ⟨hF, hf⟩)]
    refine gl_nl hF.few fun i => ?_
    rw [thoseG_bit, tt_iff]
    refine and_congr_right fun hi => and_congr_right fun _ => ⟨fun hh j hj ho => ?_, fun hh hx => ?_⟩
    · exact hh ⟨j, (behindG_bit _ _ _ _).2 ⟨aheadP_from hj, (h.bit (aheadP_from hj) i).2 hj⟩, (thoseG_bit _ _ _).2 ⟨aheadP_from hj, ho⟩⟩
    · obtain ⟨j, h1, h2⟩ := hx
      have hb := (behindG_bit _ _ _ _).1 h1
      exact hh j ((h.bit hb.1 i).1 hb.2) ((thoseG_bit _ _ _).1 h2).2
  · unfold undoL
    rw [if_neg (by rw [tt_no (fun hh => hF hh.1)]; simp)]
    exact gl_zero
theorem fit_none {D : DefD} {n : Nat} {A : Nat → Nat} (h : WebOf D n A) {st : List Int} (hf : ¬ FitS n st) : readyL D st = [] ∧ undoL D st = [] := by
  have : ¬ (Fine D ∧ FitS D.steps.length st) := fun hh => by
    rcases h.2.2 with ⟨_, e, _⟩ | ⟨e, _⟩
    · rw [e] at hf; exact hf hh.2
    · exact e hh.1
  unfold readyL undoL
  rw [tt_no this]
  exact ⟨rfl, rfl⟩

set_option maxHeartbeats 2000000 in
theorem readyTop_any (v : Value) (D : DefD) (so : Option Addr) (sc : Nat) (st : List Int) (w : World) (h : DefIn w v D) (hs : IRow w (.slice so st.length sc) st) (hT : Tabs w) : Calls Tryd.prog 17 #[v, .slice so st.length sc] w fun e w' => RowOf w (readyL D st) e w' := by
  have CX : Hid (∀ wq, Below w.heap.size w wq → Calls Tryd.prog 24 #[v] wq fun e w' => ∃ n A, e = .returned (webV n A) ∧ WebOf D n A ∧ Below wq.heap.size wq w') := fun wq hq => weave_any v D wq (h.below hq) (Utf8Tabs_below hT hq)
  have HI : Hid (IRow w (.slice so st.length sc) st) := hs
  obtain ⟨sv, rfl, hd⟩ := h
  obtain ⟨ao, cap, rfl, hcap, _, hlen, _⟩ := hd
  have HB0 : Hid (Below w.heap.size w (w.alloc (.cells #[.string D.name, .slice ao D.steps.length cap] 24))) := (Below.refl _ _).alloc (Nat.le_refl _) _
  clear hT hs
  go_enter Tryd.func17, Tryd.ntmps17
  go_wp2_with fail
  refine (CX.out _ HB0.out).mono ?_
  rintro e w1 ⟨n, A, rfl, hweb, hb1⟩
  have HWO : Hid (WebOf D n A) := hweb
  have HB1 : Hid (Below w.heap.size w w1) := HB0.out.trans (hb1.mono HB0.out.size)
  have HS2 : Hid (Has w1.heap.size w1 [BlockR w1.heap.size (standL n A so st.length sc)] (w1.alloc (.cells #[.int .i64 (n : Int), .int .u64 (A 0 : Int), .int .u64 (A 1 : Int), .int .u64 (A 2 : Int), .int .u64 (A 3 : Int), .int .u64 (A 4 : Int), .int .u64 (A 5 : Int), .int .u64 (A 6 : Int), .int .u64 (A 7 : Int), .slice so st.length sc] 61))) := (Has.start w1).box (standL n A so st.length sc) 61
  have CM : Hid (∀ wq, Below w.heap.size w wq → Calls Tryd.prog 33 #[.agg #[.int .i64 (n : Int), .int .u64 (A 0 : Int), .int .u64 (A 1 : Int), .int .u64 (A 2 : Int), .int .u64 (A 3 : Int), .int .u64 (A 4 : Int), .int .u64 (A 5 : Int), .int .u64 (A 6 : Int), .int .u64 (A 7 : Int), .slice so st.length sc]] wq fun e w' => e = .returned (.bool (tt (FitS n st))) ∧ Below wq.heap.size wq w') := fun wq hq => mayBe_stand n A so sc st wq (HI.out.below hq)
  have HBX : Hid (Below w.heap.size w (w1.alloc (.cells #[.int .i64 (n : Int), .int .u64 (A 0 : Int), .int .u64 (A 1 : Int), .int .u64 (A 2 : Int), .int .u64 (A 3 : Int), .int .u64 (A 4 : Int), .int .u64 (A 5 : Int), .int .u64 (A 6 : Int), .int .u64 (A 7 : Int), .slice so st.length sc] 61))) := HB1.out.alloc HB1.out.size _
  clear CX hb1 hweb HB0
  unfold webV webC
  go_wp2_with fail
  refine (CM.out _ HBX.out).mono ?_
  rintro e w3 ⟨rfl, hb3⟩
  have HS3 := HS2.out.below hb3
  have HB3 : Hid (Below w.heap.size w w3) := HBX.out.trans (hb3.mono HBX.out.size)
  by_cases hf : FitS n st
  · rw [tt_yes hf]
    have hln : st.length = n := hf.1
    subst hln
    have hcell := fun (j : Nat) (u : Value) (hu : (standL st.length A so st.length sc)[j]? = some u) => (HS3.cell List.mem_cons_self j u hu).1
    have q0 := hcell 0 _ rfl
    have q1 := hcell 1 _ rfl
    have q2 := hcell 2 _ rfl
    have q3 := hcell 3 _ rfl
    have q4 := hcell 4 _ rfl
    have q5 := hcell 5 _ rfl
    have q6 := hcell 6 _ rfl
    have q7 := hcell 7 _ rfl
    have q8 := hcell 8 _ rfl
    have q9 := hcell 9 _ rfl
    have CT : Hid (Calls Tryd.prog 34 #[.agg #[.int .i64 (st.length : Int), .int .u64 (A 0 : Int), .int .u64 (A 1 : Int), .int .u64 (A 2 : Int), .int .u64 (A 3 : Int), .int .u64 (A 4 : Int), .int .u64 (A 5 : Int), .int .u64 (A 6 : Int), .int .u64 (A 7 : Int)], .func (.func 35) #[.agg #[.int .i64 (st.length : Int), .int .u64 (A 0 : Int), .int .u64 (A 1 : Int), .int .u64 (A 2 : Int), .int .u64 (A 3 : Int), .int .u64 (A 4 : Int), .int .u64 (A 5 : Int), .int .u64 (A 6 : Int), .int .u64 (A 7 : Int), .slice so st.length sc]] #[]] w3 fun e w' => e = .returned (.int .u64 (thoseG (ReadyS A st.length st) st.length : Int)) ∧ Below w3.heap.size w3 w') :=
      those_any _ (by simp) (ReadyS A st.length st) _ st.length A HWO.out.1 w3 (fun i wx hi hx => ready_any A st HWO.out.1 HWO.out.2.1 so sc i hi wx ((HI.out.below HB3.out).below hx))
    have CL : Hid (∀ wq, Calls Tryd.prog 26 #[.int .u64 (thoseG (ReadyS A st.length st) st.length : Int)] wq fun e w' => ∃ v, e = .returned v ∧ w'.ownsRow wq.heap.size 3 1 v (readyL D st).length ((readyL D st).map nV) ∧ Below wq.heap.size wq w') := fun wq => by
      have := gList_any (thoseG (ReadyS A st.length st) st.length) (thoseG_lt _ _ HWO.out.1) wq
      rw [web_ready HWO.out hf] at this
      exact this
    clear hb3 HS3 HS2 CM hf hcell
    go_wp2_with fail
    refine CT.out.mono ?_
    rintro e w5 ⟨rfl, hb5⟩
    have HB5 : Hid (Below w.heap.size w w5) := HB3.out.trans (hb5.mono HB3.out.size)
    clear hb5 q0 q1 q2 q3 q4 q5 q6 q7 q8 q9 CT
    go_wp2_with fail
    refine (CL.out _).mono ?_
    rintro e w4 ⟨v4, rfl, hown, hb4⟩
    have HR : Hid (w4.ownsRow w.heap.size 3 1 v4 (readyL D st).length ((readyL D st).map nV)) := own_base hown HB5.out.size
    have HB4 : Hid (Below w.heap.size w w4) := HB5.out.trans (hb4.mono HB5.out.size)
    clear hown hb4
    go_wp2_with fail
    go_ret
    exact ⟨_, rfl, HR.out, HB4.out⟩
  · have HE : Hid (readyL D st = []) := (fit_none HWO.out hf).1
    rw [tt_no hf]
    clear hb3 HS3 HS2 CM hf
    go_wp2_with fail
    go_ret
    rw [HE.out]
    exact rowOf_nil w w3 HB3.out

set_option maxHeartbeats 2000000 in
theorem undoTop_any (v : Value) (D : DefD) (so : Option Addr) (sc : Nat) (st : List Int) (w : World) (h : DefIn w v D) (hs : IRow w (.slice so st.length sc) st) (hT : Tabs w) : Calls Tryd.prog 18 #[v, .slice so st.length sc] w fun e w' => RowOf w (undoL D st) e w' := by
  have CX : Hid (∀ wq, Below w.heap.size w wq → Calls Tryd.prog 24 #[v] wq fun e w' => ∃ n A, e = .returned (webV n A) ∧ WebOf D n A ∧ Below wq.heap.size wq w') := fun wq hq => weave_any v D wq (h.below hq) (Utf8Tabs_below hT hq)
  have HI : Hid (IRow w (.slice so st.length sc) st) := hs
  obtain ⟨sv, rfl, hd⟩ := h
  obtain ⟨ao, cap, rfl, hcap, _, hlen, _⟩ := hd
  have HB0 : Hid (Below w.heap.size w (w.alloc (.cells #[.string D.name, .slice ao D.steps.length cap] 24))) := (Below.refl _ _).alloc (Nat.le_refl _) _
  clear hT hs
  go_enter Tryd.func18, Tryd.ntmps18
  go_wp2_with fail
  refine (CX.out _ HB0.out).mono ?_
  rintro e w1 ⟨n, A, rfl, hweb, hb1⟩
  have HWO : Hid (WebOf D n A) := hweb
  have HB1 : Hid (Below w.heap.size w w1) := HB0.out.trans (hb1.mono HB0.out.size)
  have HS2 : Hid (Has w1.heap.size w1 [BlockR w1.heap.size (standL n A so st.length sc)] (w1.alloc (.cells #[.int .i64 (n : Int), .int .u64 (A 0 : Int), .int .u64 (A 1 : Int), .int .u64 (A 2 : Int), .int .u64 (A 3 : Int), .int .u64 (A 4 : Int), .int .u64 (A 5 : Int), .int .u64 (A 6 : Int), .int .u64 (A 7 : Int), .slice so st.length sc] 61))) := (Has.start w1).box (standL n A so st.length sc) 61
  have CM : Hid (∀ wq, Below w.heap.size w wq → Calls Tryd.prog 33 #[.agg #[.int .i64 (n : Int), .int .u64 (A 0 : Int), .int .u64 (A 1 : Int), .int .u64 (A 2 : Int), .int .u64 (A 3 : Int), .int .u64 (A 4 : Int), .int .u64 (A 5 : Int), .int .u64 (A 6 : Int), .int .u64 (A 7 : Int), .slice so st.length sc]] wq fun e w' => e = .returned (.bool (tt (FitS n st))) ∧ Below wq.heap.size wq w') := fun wq hq => mayBe_stand n A so sc st wq (HI.out.below hq)
  have HBX : Hid (Below w.heap.size w (w1.alloc (.cells #[.int .i64 (n : Int), .int .u64 (A 0 : Int), .int .u64 (A 1 : Int), .int .u64 (A 2 : Int), .int .u64 (A 3 : Int), .int .u64 (A 4 : Int), .int .u64 (A 5 : Int), .int .u64 (A 6 : Int), .int .u64 (A 7 : Int), .slice so st.length sc] 61))) := HB1.out.alloc HB1.out.size _
  clear CX hb1 hweb HB0
  unfold webV webC
  go_wp2_with fail
  refine (CM.out _ HBX.out).mono ?_
  rintro e w3 ⟨rfl, hb3⟩
  have HS3 := HS2.out.below hb3
  have HB3 : Hid (Below w.heap.size w w3) := HBX.out.trans (hb3.mono HBX.out.size)
  by_cases hf : FitS n st
  · rw [tt_yes hf]
    have hln : st.length = n := hf.1
    subst hln
    have hcell := fun (j : Nat) (u : Value) (hu : (standL st.length A so st.length sc)[j]? = some u) => (HS3.cell List.mem_cons_self j u hu).1
    have q0 := hcell 0 _ rfl
    have q1 := hcell 1 _ rfl
    have q2 := hcell 2 _ rfl
    have q3 := hcell 3 _ rfl
    have q4 := hcell 4 _ rfl
    have q5 := hcell 5 _ rfl
    have q6 := hcell 6 _ rfl
    have q7 := hcell 7 _ rfl
    have q8 := hcell 8 _ rfl
    have q9 := hcell 9 _ rfl
    have CT : Hid (Calls Tryd.prog 34 #[.agg #[.int .i64 (st.length : Int), .int .u64 (A 0 : Int), .int .u64 (A 1 : Int), .int .u64 (A 2 : Int), .int .u64 (A 3 : Int), .int .u64 (A 4 : Int), .int .u64 (A 5 : Int), .int .u64 (A 6 : Int), .int .u64 (A 7 : Int)], .func (.func 36) #[.agg #[.int .i64 (st.length : Int), .int .u64 (A 0 : Int), .int .u64 (A 1 : Int), .int .u64 (A 2 : Int), .int .u64 (A 3 : Int), .int .u64 (A 4 : Int), .int .u64 (A 5 : Int), .int .u64 (A 6 : Int), .int .u64 (A 7 : Int), .slice so st.length sc]] #[]] w3 fun e w' => e = .returned (.int .u64 (thoseG (UndoS A st.length st) st.length : Int)) ∧ Below w3.heap.size w3 w') :=
      those_any _ (by simp) (UndoS A st.length st) _ st.length A HWO.out.1 w3 (fun i wx hi hx => undo_any A st HWO.out.1 HWO.out.2.1 so sc i hi wx ((HI.out.below HB3.out).below hx))
    have CL : Hid (∀ wq, Calls Tryd.prog 26 #[.int .u64 (thoseG (UndoS A st.length st) st.length : Int)] wq fun e w' => ∃ v, e = .returned v ∧ w'.ownsRow wq.heap.size 3 1 v (undoL D st).length ((undoL D st).map nV) ∧ Below wq.heap.size wq w') := fun wq => by
      have := gList_any (thoseG (UndoS A st.length st) st.length) (thoseG_lt _ _ HWO.out.1) wq
      rw [web_undo HWO.out hf] at this
      exact this
    clear hb3 HS3 HS2 CM hf hcell
    go_wp2_with fail
    refine CT.out.mono ?_
    rintro e w5 ⟨rfl, hb5⟩
    have HB5 : Hid (Below w.heap.size w w5) := HB3.out.trans (hb5.mono HB3.out.size)
    clear hb5 q0 q1 q2 q3 q4 q5 q6 q7 q8 q9 CT
    go_wp2_with fail
    refine (CL.out _).mono ?_
    rintro e w4 ⟨v4, rfl, hown, hb4⟩
    have HR : Hid (w4.ownsRow w.heap.size 3 1 v4 (undoL D st).length ((undoL D st).map nV)) := own_base hown HB5.out.size
    have HB4 : Hid (Below w.heap.size w w4) := HB5.out.trans (hb4.mono HB5.out.size)
    clear hown hb4
    go_wp2_with fail
    go_ret
    exact ⟨_, rfl, HR.out, HB4.out⟩
  · have HE : Hid (undoL D st = []) := (fit_none HWO.out hf).2
    rw [tt_no hf]
    clear hb3 HS3 HS2 CM hf
    go_wp2_with fail
    go_ret
    rw [HE.out]
    exact rowOf_nil w w3 HB3.out
end Go.Proofs.YtmjnllldjeeigaaDoor

/- What the document tells of the law's own definition. -/
set_option linter.unusedVariables false
set_option maxRecDepth 100000
namespace Go.Proofs.YtmjnllldjeeigaaDoor
open Go.RowKit CheckMath
open Go.Proofs.YtmjnllldjeeigaaDoor.Nm

def tripS : List StepD := [⟨⟨#[97]⟩, 3, 0, [], []⟩, ⟨⟨#[98]⟩, 1, 1, [], []⟩, ⟨⟨#[99]⟩, 1, 2, [], [1]⟩]
def tripD : DefD := ⟨⟨#[116, 114, 105, 112]⟩, tripS⟩
theorem three {i : Nat} (h : i < 3) : i = 0 ∨ i = 1 ∨ i = 2 := by omega
theorem nth0 : nth tripS 0 = ⟨⟨#[97]⟩, 3, 0, [], []⟩ := rfl
theorem nth1 : nth tripS 1 = ⟨⟨#[98]⟩, 1, 1, [], []⟩ := rfl
theorem nth2 : nth tripS 2 = ⟨⟨#[99]⟩, 1, 2, [], [1]⟩ := rfl
theorem isN_t : isN ⟨#[116, 114, 105, 112]⟩ = true := by decide +kernel
theorem isN_a : isN ⟨#[97]⟩ = true := by decide +kernel
theorem isN_b : isN ⟨#[98]⟩ = true := by decide +kernel
theorem isN_c : isN ⟨#[99]⟩ = true := by decide +kernel
theorem faultT (i : Nat) (hi : i < 3) : stepFault tripS i = 0 := by
  have hk : ∀ i, i < 3 → KeysOk (nth tripS i) := fun i hi => by
    rcases three hi with rfl | rfl | rfl
    · rw [nth0]; exact ⟨by simp, fun i hi => by simp at hi⟩
    · rw [nth1]; exact ⟨by simp, fun i hi => by simp at hi⟩
    · rw [nth2]; exact ⟨by simp, fun i hi => by simp at hi⟩
  have hn : ∀ i, i < 3 → NeedsOk (nth tripS i).needs i tripS.length := fun i hi => by
    rcases three hi with rfl | rfl | rfl
    · rw [nth0]; exact fun i hi => by simp at hi
    · rw [nth1]; exact fun i hi => by simp at hi
    · rw [nth2]
      intro j hj
      obtain rfl : j = 0 := by simp at hj; exact hj
      exact ⟨by simp [needAt], by simp [needAt, tripS], by simp [needAt], fun h => absurd h (Nat.lt_irrefl _)⟩
  have ht : ¬ Twice tripS i := by
    rintro ⟨k, hk, e⟩
    rcases three hi with rfl | rfl | rfl
    · omega
    · obtain rfl : k = 0 := by omega
      rw [nth0, nth1] at e
      exact absurd e (by decide)
    · obtain rfl | rfl : k = 0 ∨ k = 1 := by omega
      · rw [nth0, nth2] at e; exact absurd e (by decide)
      · rw [nth1, nth2] at e; exact absurd e (by decide)
  unfold stepFault
  rw [tt_no ht, tt_yes (hk i hi), tt_yes (hn i hi)]
  rcases three hi with rfl | rfl | rfl
  · rw [nth0]; simp [isN_a]
  · rw [nth1]; simp [isN_b]
  · rw [nth2]; simp [isN_c]
theorem ringT : ∀ a b, Path (CheckMath.Edge tripS) a b → a = 2 ∧ b = 1 := by
  have h1 : ∀ a b, CheckMath.Edge tripS a b → a = 2 ∧ b = 1 := by
    rintro a b ⟨ha, hb, hm⟩
    rcases three (show a < 3 from ha) with rfl | rfl | rfl
    · rw [nth0] at hm; cases hm
    · rw [nth1] at hm; cases hm
    · rw [nth2] at hm
      simp at hm
      exact ⟨rfl, by omega⟩
  intro a b h
  induction h with
  | one e => exact h1 _ _ e
  | cons e _ ih => have := h1 _ _ e; omega
theorem fineT : Fine tripD := by
  refine ⟨isN_t, by decide, by decide, fun i hi => faultT i hi, fun i hi h => ?_, fun i hi h => ?_, fun i hi h => ?_, fun i hi h => ?_⟩
  · have h1 := h.1
    change (nth tripS i).kind = 2 at h1
    rcases three (show i < 3 from hi) with rfl | rfl | rfl
    · rw [nth0] at h1; simp at h1
    · rw [nth1] at h1; simp at h1
    · rw [nth2] at h1; simp at h1
  · obtain ⟨h1, x, h2, h3⟩ := h
    change x ∈ (nth tripS i).needs at h2
    change (nth tripS x.toNat).kind ≠ 1 at h3
    rcases three (show i < 3 from hi) with rfl | rfl | rfl
    · rw [nth0] at h2; cases h2
    · rw [nth1] at h2; cases h2
    · rw [nth2] at h2
      simp at h2
      subst h2
      exact h3 rfl
  · have := ringT _ _ h
    omega
  · obtain ⟨h1, x, h2, h3⟩ := h
    change x ∈ (nth tripS i).keys at h2
    rcases three (show i < 3 from hi) with rfl | rfl | rfl
    · rw [nth0] at h2; cases h2
    · rw [nth1] at h2; cases h2
    · rw [nth2] at h2; cases h2
def AheadT (i j : Nat) : Prop := (i = 0 ∧ (j = 1 ∨ j = 2)) ∨ (i = 2 ∧ j = 1)
instance (i j : Nat) : Decidable (AheadT i j) := by unfold AheadT; infer_instance
theorem directT {i j : Nat} (hi : i < 3) : Direct tripS i j ↔ AheadT i j := by
  have h3 : tripS.length = 3 := rfl
  constructor
  · rintro ⟨hj, h⟩
    rcases three hi with rfl | rfl | rfl <;> rcases three (show j < 3 from hj) with rfl | rfl | rfl <;> simp [nth0, nth1, nth2, AheadT] at h ⊢
  · intro h
    rcases h with ⟨rfl, rfl | rfl⟩ | ⟨rfl, rfl⟩
    · exact ⟨by decide, Or.inr (by simp [nth0, nth1])⟩
    · exact ⟨by decide, Or.inr (by simp [nth0, nth2])⟩
    · exact ⟨by decide, Or.inl (by simp [nth2])⟩
theorem aheadT (i j : Nat) : AheadP tripS i j ↔ AheadT i j := by
  constructor
  · intro h
    induction h with
    | one e => exact (directT e.1).1 e.2
    | cons e _ ih =>
      have h1 := (directT e.1).1 e.2
      unfold AheadT at h1 ih ⊢
      omega
  · intro h
    have hi : i < 3 := by unfold AheadT at h; omega
    exact .one ⟨hi, (directT hi).2 h⟩
theorem tt_dec {P Q : Prop} [Decidable Q] (h : P ↔ Q) : tt P = decide Q := by
  rw [tt_congr h]
  by_cases q : Q
  · rw [tt_yes q, decide_eq_true q]
  · rw [tt_no q, decide_eq_false q]
theorem inT (i : Nat) (h : i < 3) : InD tripD (i : Int) := ⟨fineT, by omega, by show (i : Int) < (3 : Nat); omega⟩
theorem aheadL_T : aheadL tripD (0 : Nat) = [1, 2] := by
  rw [aheadL_yes (inT 0 (by omega))]
  have : (fun j => tt (AheadP tripD.steps (((0 : Nat) : Int)).toNat j)) = fun j => decide (AheadT 0 j) := funext fun j => tt_dec (aheadT 0 j)
  rw [this]
  decide
theorem behindL_T : behindL tripD (1 : Nat) = [0, 2] := by
  unfold behindL
  rw [if_pos (tt_yes (inT 1 (by omega)))]
  have : (fun b => tt (AheadP tripD.steps b (((1 : Nat) : Int)).toNat)) = fun b => decide (AheadT b 1) := funext fun b => tt_dec (aheadT b 1)
  rw [this]
  decide
theorem fitT (a b c : Int) (h : 0 ≤ a ∧ a ≤ 5 ∧ 0 ≤ b ∧ b ≤ 5 ∧ 0 ≤ c ∧ c ≤ 5) : FitS tripD.steps.length [a, b, c] := by
  refine ⟨rfl, fun i hi => ?_⟩
  rcases three (show i < 3 from hi) with rfl | rfl | rfl <;> simp [needAt] <;> omega
theorem readyL_T : readyL tripD [0, 2, 0] = [2] := by
  unfold readyL
  rw [if_pos (tt_yes ⟨fineT, fitT _ _ _ (by decide)⟩)]
  have h : ∀ i, ReadyP tripD [0, 2, 0] i ↔ (needAt [0, 2, 0] i = 0 ∧ (i = 0 → False)  ∧ (i = 2 → needAt [0, 2, 0] 1 = 2)) := fun i => by
    unfold ReadyP
    refine and_congr_right fun _ => ⟨fun h => ⟨fun e => ?_, fun e => ?_⟩, fun h j hj => ?_⟩
    · subst e
      exact absurd (h 2 ((aheadT 0 2).2 (Or.inl ⟨rfl, Or.inr rfl⟩))) (by decide)
    · subst e
      exact h 1 ((aheadT 2 1).2 (Or.inr ⟨rfl, rfl⟩))
    · have := (aheadT i j).1 hj
      rcases this with ⟨rfl, _⟩ | ⟨rfl, rfl⟩
      · exact absurd rfl h.1
      · exact h.2 rfl
  have : (fun i => tt (ReadyP tripD [0, 2, 0] i)) = fun i => decide (needAt [0, 2, 0] i = 0 ∧ (i = 0 → False)  ∧ (i = 2 → needAt [0, 2, 0] 1 = 2)) := funext fun i => tt_dec (h i)
  rw [this]
  decide
theorem undoL_T : undoL tripD [0, 2, 1] = [2] := by
  unfold undoL
  rw [if_pos (tt_yes ⟨fineT, fitT _ _ _ (by decide)⟩)]
  have h : ∀ i, UndoP tripD [0, 2, 1] i ↔ ((needAt [0, 2, 1] i = 1 ∨ needAt [0, 2, 1] i = 2) ∧ ¬ i = 1) := fun i => by
    unfold UndoP
    refine and_congr_right fun ho => ⟨fun h e => ?_, fun h j hj hx => ?_⟩
    · subst e
      exact h 2 ((aheadT 2 1).2 (Or.inr ⟨rfl, rfl⟩)) (Or.inl (by decide))
    · have := (aheadT j i).1 hj
      rcases this with ⟨rfl, _⟩ | ⟨rfl, rfl⟩
      · rcases hx with e | e
        · exact absurd e (by decide)
        · exact absurd e (by decide)
      · exact h rfl
  have : (fun i => tt (UndoP tripD [0, 2, 1] i)) = fun i => decide ((needAt [0, 2, 1] i = 1 ∨ needAt [0, 2, 1] i = 2) ∧ ¬ i = 1) := funext fun i => tt_dec (h i)
  rw [this]
  decide
theorem bitsT {n : Nat} {A : Nat → Nat} (h : WebOf tripD n A) : n = 3 ∧ A 0 = 6 ∧ A 1 = 0 ∧ A 2 = 2 := by
  have hn : n = 3 := by
    rcases h.2.2 with ⟨_, e, _⟩ | ⟨e, _⟩
    · exact e
    · exact absurd fineT e
  subst hn
  have hb : ∀ i, i < 3 → ∀ j, (A i).testBit j = decide (AheadT i j) := fun i hi j => by
    have := (h.bit hi j).trans (aheadT i j)
    cases e : (A i).testBit j with
    | true => exact (decide_eq_true (this.1 e)).symm
    | false => exact (decide_eq_false (fun q => by rw [this.2 q] at e; cases e)).symm
  have key : ∀ i m, i < 3 → m < 256 → (∀ j, j < 8 → m.testBit j = decide (AheadT i j)) → A i = m := fun i m hi hm hj => Nat.eq_of_testBit_eq fun j => by
    by_cases h8 : j < 8
    · rw [hb i hi, hj j h8]
    · have p : 256 ≤ 2 ^ j := Nat.le_trans (show 256 ≤ 2 ^ 8 by decide) (Nat.pow_le_pow_right (by omega) (by omega))
      rw [Nat.testBit_lt_two_pow (Nat.lt_of_lt_of_le (h.2.1 i (by omega)) p), Nat.testBit_lt_two_pow (Nat.lt_of_lt_of_le hm p)]
  exact ⟨rfl, key 0 6 (by omega) (by omega) (by decide), key 1 0 (by omega) (by omega) (by decide), key 2 2 (by omega) (by omega) (by decide)⟩
theorem orderT {n : Nat} {A : Nat → Nat} (h : WebOf tripD n A) {xs : List Nat} (hx : OrderOf n A xs) : xs = [1, 2, 0] := by
  obtain ⟨rfl, a0, a1, a2⟩ := bitsT h
  have r : ∀ t i, Ripe A t i = (t.testBit i = false ∧ ∀ j, (A i).testBit j = true → t.testBit j = true) := fun _ _ => rfl
  have n0 : nextI 3 A 0 = 1 := by
    have p0 : ¬ Ripe A 0 0 := by rw [r, a0]; exact fun h => absurd (h.2 1 (by decide)) (by decide)
    have p1 : Ripe A 0 1 := by rw [r, a1]; exact ⟨by decide, fun j hj => by simp at hj⟩
    simp [nextI, firstI, firstF, tt_no p0, tt_yes p1]
  have n1 : nextI 3 A 2 = 2 := by
    have p0 : ¬ Ripe A 2 0 := by rw [r, a0]; exact fun h => absurd (h.2 2 (by decide)) (by decide)
    have p1 : ¬ Ripe A 2 1 := by rw [r]; exact fun h => absurd h.1 (by decide)
    have p2 : Ripe A 2 2 := by rw [r, a2]; exact ⟨by decide, fun j hj => hj⟩
    simp [nextI, firstI, firstF, tt_no p0, tt_no p1, tt_yes p2]
  have n2 : nextI 3 A 6 = 0 := by
    have p0 : Ripe A 6 0 := by rw [r, a0]; exact ⟨by decide, fun j hj => hj⟩
    simp [nextI, firstI, firstF, tt_yes p0]
  have n3 : nextI 3 A 7 = -1 := by
    have p0 : ¬ Ripe A 7 0 := by rw [r]; exact fun h => absurd h.1 (by decide)
    have p1 : ¬ Ripe A 7 1 := by rw [r]; exact fun h => absurd h.1 (by decide)
    have p2 : ¬ Ripe A 7 2 := by rw [r]; exact fun h => absurd h.1 (by decide)
    simp [nextI, firstI, firstF, tt_no p0, tt_no p1, tt_no p2]
  match xs, hx with
  | [], hx => have := hx.last; change nextI 3 A 0 = -1 at this; omega
  | [x], hx =>
    have h0 := hx.next 0 (by simp)
    change nextI 3 A 0 = (x : Int) at h0
    obtain rfl : x = 1 := by omega
    have := hx.last
    change nextI 3 A 2 = -1 at this
    omega
  | [x, y], hx =>
    have h0 := hx.next 0 (by simp)
    change nextI 3 A 0 = (x : Int) at h0
    obtain rfl : x = 1 := by omega
    have h1 := hx.next 1 (by simp)
    change nextI 3 A 2 = (y : Int) at h1
    obtain rfl : y = 2 := by omega
    have := hx.last
    change nextI 3 A 6 = -1 at this
    omega
  | [x, y, z], hx =>
    have h0 := hx.next 0 (by simp)
    change nextI 3 A 0 = (x : Int) at h0
    obtain rfl : x = 1 := by omega
    have h1 := hx.next 1 (by simp)
    change nextI 3 A 2 = (y : Int) at h1
    obtain rfl : y = 2 := by omega
    have h2 := hx.next 2 (by simp)
    change nextI 3 A 6 = (z : Int) at h2
    obtain rfl : z = 0 := by omega
    rfl
  | x :: y :: z :: u :: t, hx =>
    have h0 := hx.next 0 (by simp)
    change nextI 3 A 0 = (x : Int) at h0
    obtain rfl : x = 1 := by omega
    have h1 := hx.next 1 (by simp)
    change nextI 3 A 2 = (y : Int) at h1
    obtain rfl : y = 2 := by omega
    have h2 := hx.next 2 (by simp)
    change nextI 3 A 6 = (z : Int) at h2
    obtain rfl : z = 0 := by omega
    have h3 := hx.next 3 (by simp)
    change nextI 3 A 7 = (u : Int) at h3
    omega
end Go.Proofs.YtmjnllldjeeigaaDoor

/- The walks of Order and of told. -/
set_option linter.unusedVariables false
set_option maxRecDepth 100000
namespace Go.Proofs.YtmjnllldjeeigaaDoor
open Go.RowKit Go.Shelf CheckMath
open Go.Proofs.YtmjnllldjeeigaaDoor.Nm
attribute [local go_sem] Oper.semAt_some

set_option maxHeartbeats 2000000 in
theorem orderTop_any (v : Value) (D : DefD) (w : World) (h : DefIn w v D) (hT : Tabs w) : Calls Tryd.prog 48 #[v] w fun e w' => ∃ n A, e = .returned (.func (.func 44) #[webV n A] #[]) ∧ WebOf D n A ∧ Below w.heap.size w w' := by
  have CX : Hid (∀ wq, Below w.heap.size w wq → Calls Tryd.prog 24 #[v] wq fun e w' => ∃ n A, e = .returned (webV n A) ∧ WebOf D n A ∧ Below wq.heap.size wq w') := fun wq hq => weave_any v D wq (h.below hq) (Utf8Tabs_below hT hq)
  obtain ⟨sv, rfl, hd⟩ := h
  obtain ⟨ao, cap, rfl, hcap, _, hlen, _⟩ := hd
  have HB0 : Hid (Below w.heap.size w (w.alloc (.cells #[.string D.name, .slice ao D.steps.length cap] 24))) := (Below.refl _ _).alloc (Nat.le_refl _) _
  clear hT
  go_enter Tryd.func48, Tryd.ntmps48
  go_wp2_with fail
  refine (CX.out _ HB0.out).mono ?_
  rintro e w1 ⟨n, A, rfl, hweb, hb1⟩
  have HWO : Hid (WebOf D n A) := hweb
  have HB1 : Hid (Below w.heap.size w w1) := HB0.out.trans (hb1.mono HB0.out.size)
  clear CX hb1 hweb HB0
  go_wp2_with fail
  go_ret
  exact ⟨n, A, rfl, HWO.out, HB1.out⟩

theorem OrderOf.cnt_take {n : Nat} {a : Nat → Nat} {xs : List Nat} (h : OrderOf n a xs) : ∀ k, k ≤ xs.length → k ≤ cnt (fun i => i ∈ xs.take k) n
  | 0, _ => Nat.zero_le _
  | k + 1, hk => by
    have ih := OrderOf.cnt_take h k (by omega)
    have hlt := cnt_lt (P := fun i => i ∈ xs.take k) (Q := fun i => i ∈ xs.take (k + 1)) n (fun y _ hy => by rw [take_snoc (by omega)]; exact List.mem_append_left _ hy) xs[k] (h.lt _ (List.getElem_mem _)) (show xs[k] ∈ xs.take (k + 1) by rw [take_snoc (by omega)]; exact List.mem_append_right _ (List.mem_singleton.2 rfl)) (h.new k (by omega))
    omega
theorem OrderOf.few {n : Nat} {a : Nat → Nat} {xs : List Nat} (h : OrderOf n a xs) : xs.length ≤ n := by
  have h1 := h.cnt_take xs.length (Nat.le_refl _)
  have h2 := cnt_le (fun i => i ∈ xs.take xs.length) n
  omega
/-- The list that is told so far: its variable's block, and its row, which lies behind this block. -/
def ToldIn (w : World) (lb ob : Nat) (xs : List Nat) (W : World) : Prop := ∃ v, Below w.heap.size w W ∧ W.cell? ⟨ob, 0, none⟩ = some v ∧ W.frozen? ⟨ob, 0, none⟩ = false ∧ W.ownsRow w.heap.size 3 1 v xs.length (xs.map nV) ∧ (∀ g, v.ownBlock = some g → lb < g) ∧ w.heap.size ≤ ob
theorem ToldIn.chg {w : World} {lb ob : Nat} {xs : List Nat} {W W2 : World} {S : Nat → Prop} (h : ToldIn w lb ob xs W) (hc : Chg S W W2) (h1 : ¬ S ob) (h2 : ∀ v g, W.ownsRow w.heap.size 3 1 v xs.length (xs.map nV) → v.ownBlock = some g → ¬ S g) (h3 : ∀ k, k < w.heap.size → ¬ S k) (h4 : w.heap.size ≤ W.heap.size) : ToldIn w lb ob xs W2 := by
  obtain ⟨v, k1, k2, k3, k4, k5, k6⟩ := h
  have hb := hc.block ob (block_lt_of_cell k2) h1
  exact ⟨v, k1.trans (below_chg hc h4 h3), (World.cell?_of_block (w := W) (a := ⟨ob, 0, none⟩) hb).trans k2, (World.frozen?_of_block (w := W) (a := ⟨ob, 0, none⟩) hb).trans k3, own_chg k4 hc (fun g hg => h2 v g k4 hg), k5, k6⟩

set_option maxHeartbeats 2000000 in
theorem told_any (v : Value) (D : DefD) (w : World) (h : DefIn w v D) (hT : Tabs w) : Calls Tryd.prog 32 #[v] w fun e w' => ∃ n A xs v', WebOf D n A ∧ OrderOf n A xs ∧ e = .returned v' ∧ w'.ownsRow w.heap.size 3 1 v' xs.length (xs.map nV) ∧ Below w.heap.size w w' := by
  have CX : Hid (∀ wq, Below w.heap.size w wq → Calls Tryd.prog 48 #[v] wq fun e w' => ∃ n A, e = .returned (.func (.func 44) #[webV n A] #[]) ∧ WebOf D n A ∧ Below wq.heap.size wq w') := fun wq hq => orderTop_any v D wq (h.below hq) (Utf8Tabs_below hT hq)
  obtain ⟨sv, rfl, hd⟩ := h
  obtain ⟨ao, cap, rfl, hcap, _, hlen, _⟩ := hd
  obtain ⟨i0, hi, hz0, hz1, hz2⟩ := info_parts infoI
  have HS0 : Hid (Has w.heap.size w [BlockR (w.heap.size + 1) [.slice none 0 0], BlockR w.heap.size [.string D.name, .slice ao D.steps.length cap]] ((w.alloc (.cells #[.string D.name, .slice ao D.steps.length cap] 24)).alloc (.cells #[.slice none 0 0] 26))) := by
    have h1 := (Has.start w).box [.string D.name, .slice ao D.steps.length cap] 24
    have h2 := h1.box [.slice none 0 0] 26
    have e : ∀ (w : World) (o : Obj), (w.alloc o).heap.size = w.heap.size + 1 := fun w o => by simp
    simp only [e] at h2
    exact h2
  clear hT
  refine (callsIn_wide (n := 9)).1 ?_
  refine callsIn_of_wp_marks Tryd.func32 rfl trivial ?_ rfl
  simp only [Tryd.ntmps32, List.size_toArray, List.length_cons, List.length_nil, Nat.reduceAdd, Nat.reduceSub, Array.replicate_succ, Array.replicate_zero, List.push_toArray, List.append_toArray, List.nil_append, List.cons_append]
  gi_wp2
  refine ⟨trivial, callsIn_wide.2 ((CX.out _ HS0.out.bel).mono ?_)⟩
  rintro e w1 ⟨n, A, rfl, hweb, hb1⟩
  obtain ⟨xs, hxs⟩ := order_exists n A
  have HX : Hid (OrderOf n A xs) := hxs
  have HWO : Hid (WebOf D n A) := hweb
  have HS1 := HS0.out.below hb1
  have HT0 : Hid (ToldIn w (w1.heap.size + 2) (w.heap.size + 1) (xs.take 0) w1) := by
    obtain ⟨c1, c2⟩ := HS1.cell List.mem_cons_self 0 _ rfl
    exact ⟨_, HS1.bel, c1, c2, World.ownsRow_nil _ _ _ _, (fun g hg => by simp [Value.ownBlock] at hg), by omega⟩
  have HSZ : Hid (w.heap.size ≤ w1.heap.size) := HS1.size
  have HTL : Hid (SeqTells (P := Tryd.prog) Fence.wide (9 - 1) 44 (webV n A) xs w1) := order_tells n A hweb.1 hweb.2.1 xs hxs _ _
  have HOB : Hid (w.heap.size + 1 < w1.heap.size) := block_lt_of_cell (HS1.cell List.mem_cons_self 0 _ rfl).1
  have KE : ∀ wq, (binOp BinOp.eql 68 (.func (.func 44) #[webV n A] #[]) .nilFunc).run Tryd.prog wq = .ok (.bool false) wq := fun wq => by kernel_rfl
  clear HS0 CX hb1 hweb hxs HS1
  gi_wp2
  refine range_told rfl (by decide) rfl trivial (enters_of Tryd.func44 (by kernel_rfl) rfl) HTL.out rfl (fun k W => ToldIn w (w1.heap.size + 2) (w.heap.size + 1) (xs.take k) W) ?_ ?_ HT0.out ?round ?done
  · intro k W1 W2 hk hb
    have hs := hk.choose_spec.1.size
    have hlt := block_lt_of_cell hk.choose_spec.2.1
    exact hk.chg (S := fun _ => False) (chg_below hb) (fun h => h) (fun _ _ _ _ h => h) (fun _ _ h => h) (by simp only at hlt; omega)
  · intro k W1 l o o2 hk hl ho hc
    have hlt := (Array.getElem?_eq_some_iff.1 ho).1
    have h1 := HOB.out
    refine hk.chg (chg_put W1 l o2) (by omega) (fun v g hown hg e => ?_) (fun b hb e => by omega) (by omega)
    subst e
    rcases hown.2 with ⟨rfl, _⟩ | ⟨g2, cap, cur, rfl, _, hg2, _⟩
    · simp [Value.ownBlock] at hg
    · have : g2 = g := by simpa [Value.ownBlock] using hg
      subst this
      rw [hg2] at ho
      cases ho
      simp [Obj.isCells] at hc
  case round =>
    intro l k X hk
    gi_wp2
    refine ⟨trivial, fun W hsz hI => ?_⟩
    obtain ⟨v, k1, k2, k3, k4, k5, k6⟩ := hI
    have hkx : k < xs.length := hk
    have hsz2 : w1.heap.size + 2 < W.heap.size := hsz
    have h8 : xs.length ≤ 8 := Nat.le_trans HX.out.few HWO.out.1
    have hob : w.heap.size + 1 < W.heap.size := block_lt_of_cell k2
    have hbase : w.heap.size ≤ W.heap.size := by omega
    have hlen2 : (xs.take k).length ≤ 8 := by rw [List.length_take]; omega
    have HSN : Hid (xs.take (k + 1) = xs.take k ++ [xs[k]]) := take_snoc hkx
    have HK1 : Hid (Below w.heap.size w W) := k1
    have HK4 : Hid (W.ownsRow w.heap.size 3 1 v (xs.take k).length ((xs.take k).map nV)) := k4
    have HK5 : Hid (∀ g, v.ownBlock = some g → w1.heap.size + 2 < g) := k5
    have HSZ2 : Hid (w1.heap.size + 2 < W.heap.size) := hsz
    have HOB2 : Hid (w.heap.size + 1 < w1.heap.size) := HOB.out
    clear k1 k5 k6 h8 hsz hz0 hz1 hz2 hi HT0 HTL HSZ
    generalize xs[k] = x at *
    obtain ⟨i0, hi, hz0, hz1, hz2⟩ := info_parts infoI
    gi_wp2_with (gi_at_builtin; go_loud (refine wpListIn_append_own_at _ rfl _ _ 26 rfl w.heap.size 3 i0 (.int .i64 0) 1 8 Tryd.underlying26 hi hz0 hz1 hz2 rfl (by decide) _ _ _ rfl (k4.alloc _) ⟨_, 0, none⟩ 1 1 [nV x] rfl rfl (cells_new _ _ _) (one_iV _) (by unfold maxLen; omega) (by omega) (by simp; omega) ?_))
    intro v' w' hown' hgrow hnn hvb
    obtain ⟨vo, vc, hvv, _⟩ := own_form hown'
    have c2 := (chg_below (S := fun k => v.ownBlock = some k) ((Below.refl W.heap.size W).alloc (Nat.le_refl _) _)).trans (chg_grown hgrow) (fun j _ h => h)
    have hbo := c2.block (w.heap.size + 1) hob (fun e => by have := HK5.out _ e; have := HOB2.out; omega)
    have m1 := (World.cell?_of_block (w := W) (a := ⟨w.heap.size + 1, 0, none⟩) hbo).trans k2
    have m2 := (World.frozen?_of_block (w := W) (a := ⟨w.heap.size + 1, 0, none⟩) hbo).trans k3
    have c3 := (c2.mono (T := fun b => v.ownBlock = some b ∨ b = w.heap.size + 1) (fun _ _ h => Or.inl h)).trans (chg_set w' ⟨w.heap.size + 1, 0, none⟩ v') (fun j _ h => Or.inr h)
    have hv5 : ∀ g, v'.ownBlock = some g → w1.heap.size + 2 < g := fun g hg => by
      rcases hvb with e | e
      · exact HK5.out g (e ▸ hg)
      · have : g = (W.heap.size + 1) := by
          rw [hg] at e
          simpa using e
        have := HSZ2.out
        omega
    have HF : Hid (Chg (fun b => b < w1.heap.size ∨ w1.heap.size + 2 < b) W (w'.setCell ⟨w.heap.size + 1, 0, none⟩ v') ∧ ToldIn w (w1.heap.size + 2) (w.heap.size + 1) (xs.take (k + 1)) (w'.setCell ⟨w.heap.size + 1, 0, none⟩ v')) := by
      have hlt1 := HOB2.out
      refine ⟨c3.mono (fun b _ h => ?_), v', HK1.out.trans (below_chg c3 hbase (fun b hb h => ?_)), World.cell?_setCell_same _ _ _ m1, (by rw [World.frozen?_setCell]; exact m2), own_chg ?_ (chg_set w' ⟨w.heap.size + 1, 0, none⟩ v') (fun g hg e => ?_), hv5, by omega⟩
      · rcases h with h | h
        · exact Or.inr (HK5.out b h)
        · exact Or.inl (by omega)
      · rcases h with h | h
        · have := HK5.out b h; omega
        · omega
      · rw [HSN.out]; simpa using hown'
      · have := hv5 g hg; simp only at e; omega
    clear c2 c3 hbo hv5 hown' hgrow hnn hvb HSN HK1 HK4 HK5 k4 k2 k3
    generalize hvn : (xs.take k).length + 1 = vn at *
    subst hvv
    clear hvn
    gi_wp2
    exact HF.out
  case done =>
    intro Dn W hD hI hdef
    obtain ⟨v, k1, k2, k3, k4, k5, k6⟩ := hI
    have hob : w.heap.size + 1 < W.heap.size := block_lt_of_cell k2
    have hdl : Dn < W.heap.size := (Array.getElem?_eq_some_iff.1 hdef).1
    have HDF : Hid (W.heap[Dn]? = some (.deferred (some []))) := hdef
    have HRES : Hid ((W.putObj Dn (.deferred none)).ownsRow w.heap.size 3 1 v xs.length (xs.map nV) ∧ Below w.heap.size w (W.putObj Dn (.deferred none))) := by
      rw [List.take_length] at k4
      refine ⟨own_chg k4 (chg_put W Dn _) (fun g hg e => ?_), k1.trans (below_chg (chg_put W Dn _) (by omega) (fun b hb e => by have := HSZ.out; omega))⟩
      subst e
      rcases k4.2 with ⟨rfl, _⟩ | ⟨g2, cap, cur, rfl, _, hg2, _⟩
      · simp [Value.ownBlock] at hg
      · have : g2 = g := by simpa [Value.ownBlock] using hg
        subst this
        rw [hg2] at hdef
        cases hdef
    clear k1 k4 k5 k6 hdef
    gi_wp2
    refine ⟨by simp, .inl ⟨_, _, rfl, run_takeDeferred HDF.out, ?_⟩⟩
    exact ⟨_, results_tmp rfl _ _ _, n, A, xs, v, HWO.out, HX.out, rfl, HRES.out⟩
end Go.Proofs.YtmjnllldjeeigaaDoor

/- The walk of trip, in the law's package. -/
set_option linter.unusedVariables false
set_option maxRecDepth 100000
namespace Go.Proofs.YtmjnllldjeeigaaDoor
open Go.RowKit CheckMath
open Go.Proofs.YtmjnllldjeeigaaDoor.Nm

def tripL (kb : Nat) : List Value := [.string ⟨#[97]⟩, .int .i64 3, .int .i64 0, .slice none 0 0, .slice none 0 0, .string ⟨#[98]⟩, .int .i64 1, .int .i64 1, .slice none 0 0, .slice none 0 0, .string ⟨#[99]⟩, .int .i64 1, .int .i64 2, .slice none 0 0, .slice (some ⟨kb, 0, none⟩) 1 1]
def tripV (sb : Nat) : Value := .agg #[.string ⟨#[116, 114, 105, 112]⟩, .slice (some ⟨sb, 0, none⟩) 3 3]
theorem krow_nil (w : World) : KRow w (.slice none 0 0) [] := ⟨none, 0, rfl, Nat.le_refl _, fun _ => rfl, ⟨by simp, fun x hx => by simp at hx⟩, fun j hj => by simp at hj⟩
theorem irow_nil (w : World) : IRow w (.slice none 0 0) [] := ⟨none, 0, rfl, Nat.le_refl _, fun _ => rfl, by simp, fun j hj => by simp at hj⟩
theorem trip_in (w : World) (kb sb : Nat) (hk : w.cell? ⟨kb, 0, none⟩ = some (.int .i64 1)) (hs : ∀ j u, (tripL kb)[j]? = some u → w.cell? ⟨sb, j, none⟩ = some u) : DefIn w (tripV sb) tripD := by
  have h0 := hs 0 _ rfl
  refine ⟨_, rfl, some ⟨sb, 0, none⟩, 3, rfl, Nat.le_refl _, fun h => (by cases h), by simp [tripD, tripS], fun j hj => ?_⟩
  rcases three (show j < 3 from hj) with rfl | rfl | rfl
  · exact ⟨sb, 0, rfl, block_lt_of_cell h0, hs 0 _ rfl, hs 1 _ rfl, hs 2 _ rfl, _, _, hs 3 _ rfl, hs 4 _ rfl, krow_nil _, irow_nil _⟩
  · exact ⟨sb, 0, rfl, block_lt_of_cell h0, hs 5 _ rfl, hs 6 _ rfl, hs 7 _ rfl, _, _, hs 8 _ rfl, hs 9 _ rfl, krow_nil _, irow_nil _⟩
  · refine ⟨sb, 0, rfl, block_lt_of_cell h0, hs 10 _ rfl, hs 11 _ rfl, hs 12 _ rfl, _, _, hs 13 _ rfl, hs 14 _ rfl, krow_nil _, some ⟨kb, 0, none⟩, 1, rfl, Nat.le_refl _, fun h => (by cases h), by simp [tripD, tripS, nth], fun j hj => ?_⟩
    obtain rfl : j = 0 := by simp [tripD, tripS, nth] at hj; exact hj
    exact ⟨kb, 0, rfl, block_lt_of_cell hk, hk⟩

set_option maxHeartbeats 1000000 in
theorem trip_any (w : World) : Calls Tryd.prog 31 #[] w fun e w' => ∃ v, e = .returned v ∧ DefIn w' v tripD ∧ Below w.heap.size w w' := by
  go_enter Tryd.func31, Tryd.ntmps31
  go_wp2
  have s1 : ∀ (w : World) (o : Obj), (w.alloc o).heap.size = w.heap.size + 1 := fun w o => by simp
  refine bodyPost_ret (results_cells rfl _ _ w.heap.size [.string ⟨#[116, 114, 105, 112]⟩, .slice (some ⟨w.heap.size + 1 + 1, 0, none⟩) 3 3] _ rfl (fun j u hu => ?_) Tryd.underlying24 rfl (by kernel_rfl)) rfl ⟨_, rfl, trip_in _ (w.heap.size + 1) (w.heap.size + 1 + 1) ?_ (fun j u hu => ?_), (((Below.refl _ w).alloc (Nat.le_refl _) _).alloc (by simp only [s1]; omega) _).alloc (by simp only [s1]; omega) _⟩
  · match j, hu with
    | 0, hu => cases hu; go_simp
    | 1, hu => cases hu; go_simp
  · go_simp
  · match j, hu with
    | 0, hu => cases hu; go_simp
    | 1, hu => cases hu; go_simp
    | 2, hu => cases hu; go_simp
    | 3, hu => cases hu; go_simp
    | 4, hu => cases hu; go_simp
    | 5, hu => cases hu; go_simp
    | 6, hu => cases hu; go_simp
    | 7, hu => cases hu; go_simp
    | 8, hu => cases hu; go_simp
    | 9, hu => cases hu; go_simp
    | 10, hu => cases hu; go_simp
    | 11, hu => cases hu; go_simp
    | 12, hu => cases hu; go_simp
    | 13, hu => cases hu; go_simp
    | 14, hu => cases hu; go_simp
end Go.Proofs.YtmjnllldjeeigaaDoor

/- The walks of the document's stands, and of the law's has. -/
set_option linter.unusedVariables false
set_option maxRecDepth 100000
namespace Go.Proofs.YtmjnllldjeeigaaDoor
open Go.RowKit CheckMath
open Go.Proofs.YtmjnllldjeeigaaDoor.Nm

set_option maxHeartbeats 1000000 in
theorem refStands_any (x : Int) (w : World) :
    Calls Tryd.prog 38 #[.int .i64 x] w fun e w' => e = .returned (.bool (tt (OpenS x))) ∧ w' = w := by
  by_cases h1 : x = 1
  · have HE : Hid (tt (OpenS x) = true) := tt_yes (Or.inl h1)
    have h1' : (x == (1 : Int)) = true := by simpa using h1
    generalize tt (OpenS x) = r at *
    clear h1
    go_enter Tryd.func38, Tryd.ntmps38
    go_wp2
    go_ret
    rw [HE.out]
    exact ⟨rfl, rfl⟩
  have h1' : (x == (1 : Int)) = false := by simpa using h1
  by_cases h2 : x = 2
  · have HE : Hid (tt (OpenS x) = true) := tt_yes (Or.inr h2)
    have h2' : (x == (2 : Int)) = true := by simpa using h2
    generalize tt (OpenS x) = r at *
    clear h1 h2
    go_enter Tryd.func38, Tryd.ntmps38
    go_wp2
    go_ret
    rw [HE.out]
    exact ⟨rfl, rfl⟩
  · have HE : Hid (tt (OpenS x) = false) := tt_no (fun h => h.elim h1 h2)
    have h2' : (x == (2 : Int)) = false := by simpa using h2
    generalize tt (OpenS x) = r at *
    clear h1 h2
    go_enter Tryd.func38, Tryd.ntmps38
    go_wp2
    go_ret
    rw [HE.out]
    exact ⟨rfl, rfl⟩

set_option maxHeartbeats 2000000 in
theorem lawHas_any (v : Value) (l : List Int) (x : Int) (w : World) (h : IRow w v l) :
    Calls Tryd.prog 22 #[v, .int .i64 x] w fun e w' => e = .returned (.bool (tt (x ∈ l))) ∧ Below w.heap.size w w' := by
  obtain ⟨ao, cap, rfl, hcap, _, hlen, hrow⟩ := h
  have HR : Hid (∀ j, j < l.length → ∃ g o, ao = some ⟨g, o, none⟩ ∧ g < w.heap.size ∧ w.cell? ⟨g, o + j, none⟩ = some (.int .i64 (needAt l j))) := hrow
  have HY : Hid (∀ j, j < l.length → needAt l j = x → tt (x ∈ l) = true) := fun j hj e => tt_yes (by rw [← e]; exact needAt_mem hj)
  have HN : Hid ((∀ j, j < l.length → ¬ needAt l j = x) → tt (x ∈ l) = false) := fun h => tt_no (fun hm => by
    obtain ⟨j, hj, e⟩ := mem_needAt hm
    exact h j hj e)
  clear hrow
  generalize tt (x ∈ l) = r at *
  go_enter Tryd.func22, Tryd.ntmps22
  go_wp2
  go_loopw [5] (fun k wr => ∃ n : Nat, n ≤ l.length ∧ k = .int .i64 (n : Int) ∧ Hid (Below w.heap.size w wr) ∧ Hid (∀ j, j < n → ¬ needAt l j = x)) (fun k _ => l.length - (intOf k).toNat)
  case atStart => exact ⟨0, Nat.zero_le _, rfl, Below.refl _ _, fun j hj => absurd hj (Nat.not_lt_zero _)⟩
  case round =>
    obtain ⟨n, hn, rfl, HB, HT⟩ := hrel
    by_cases hlt : n < l.length
    · obtain ⟨g, o, rfl, hg, c0⟩ := HR.out n hlt
      have d0 := (HB.out.cell (p := ⟨g, o + n, none⟩) hg).trans c0
      have hltI : (n : Int) < (l.length : Int) := by omega
      have HY2 : Hid (needAt l n = x → r = true) := HY.out n hlt
      have HT2 : Hid (¬ needAt l n = x → ∀ j, j < n + 1 → ¬ needAt l j = x) := fun h j hj => by
        by_cases e : j = n
        · subst e; exact h
        · exact HT.out j (by omega)
      clear c0 HR HY HN HT
      by_cases hq : needAt l n = x
      · have hq' : (needAt l n == x) = true := by simpa using hq
        have HE : Hid (r = true) := HY2.out hq
        clear hq HY2 HT2
        generalize needAt l n = z at *
        go_wp2
        go_ret
        rw [HE.out]
        exact ⟨rfl, HB.out⟩
      · have hq' : (needAt l n == x) = false := by simpa using hq
        have HT3 : Hid (∀ j, j < n + 1 → ¬ needAt l j = x) := HT2.out hq
        clear hq HY2 HT2
        generalize needAt l n = z at d0 hq'
        go_wp2
        exact ⟨⟨n + 1, by omega, by go_num, HB, HT3⟩, by simp [intOf]; omega⟩
    · have hltI : ¬ (n : Int) < (l.length : Int) := by omega
      have HE : Hid (r = false) := HN.out (fun j hj => HT.out j (by omega))
      clear HR HY HN HT
      go_wp2
      go_ret
      rw [HE.out]
      exact ⟨rfl, HB.out⟩
end Go.Proofs.YtmjnllldjeeigaaDoor
