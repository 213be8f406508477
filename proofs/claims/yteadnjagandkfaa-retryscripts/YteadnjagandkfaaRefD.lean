/- The document's Begin, Moved, Stop. -/
import Derived.Test.YteadnjagandkfaaRefC
set_option linter.unusedVariables false
set_option maxRecDepth 100000
namespace Go.Proofs.Yteadnjagandkfaa
open Go.RowKit
open WheelMath RetryMath
open Go.Maps (Keyed)

section
variable {B : Nat} {w wr : World} {x : Nat} {v : Value} {dl N : Int} {A : Ws} {tab : List Int} {rs : List Res}
theorem later_min {now n : Int} (h : Tick now) (hn : 0 ≤ n) : min (now + n) 1073741824 = later now n := by
  unfold later M
  unfold Tick M at h
  split <;> omega
theorem rBegin_no (h : Has B w rs wr) (hm : XR x v dl A ∈ rs) (hA : AOk N A) (id now : Int) (hno : begOk A id now = false) :
    Calls Try.prog 17 #[.pointer (some ⟨x, 0, none⟩), .int .i64 id, .int .i64 now] wr fun e w' => e = .returned (.int .i64 1) ∧ w' = wr := by
  obtain ⟨_, _, hc, _⟩ := h.xr hm
  have C1 : Hid (Calls Try.prog 37 #[.int .i64 now] wr fun e w' => e = .returned (.bool (decide (Tick now))) ∧ w' = wr) := refTick_any now wr
  by_cases h1 : id < 1
  · have d1 : decide (id < 1) = true := by simpa using h1
    clear hno C1 hc h hm
    go_enter Try.func17, Try.ntmps17
    go_wp2
    go_ret
    exact ⟨rfl, rfl⟩
  · have d1 : decide (id < 1) = false := by simpa using h1
    by_cases h2 : 60 < id
    · have d2 : decide (60 < id) = true := by simpa using h2
      clear hno C1 hc h hm
      go_enter Try.func17, Try.ntmps17
      go_wp2
      go_ret
      exact ⟨rfl, rfl⟩
    · have d2 : decide (60 < id) = false := by simpa using h2
      by_cases h3 : Tick now
      · obtain ⟨m, rfl⟩ := Int.eq_ofNat_of_zero_le (show 0 ≤ id by omega)
        have c : wr.cell? ⟨x, 2 + m * 5, none⟩ = some (xcell (A (m : Int)) 0) := hc m 0 (by omega) (by decide)
        have hs : (A (m : Int)).isSome = true := by
          cases e : A (m : Int) with
          | some y => rfl
          | none =>
            have : begOk A (m : Int) now = true := by
              unfold begOk
              simp [h3, e]
              omega
            rw [this] at hno
            cases hno
        rw [xcell_is, hs] at c
        rw [decide_eq_true h3] at C1
        have hm61 : (m : Int) < 61 := by omega
        have hm61n : m < 61 := by omega
        clear hno hs h3 hc h hm
        go_enter Try.func17, Try.ntmps17
        go_wp2_with fail
        refine C1.out.mono ?_
        rintro e w1 ⟨rfl, hw⟩
        rw [hw]
        clear hw w1
        go_wp2
        go_ret
        exact ⟨rfl, rfl⟩
      · rw [decide_eq_false h3] at C1
        clear hno h3 hc h hm
        go_enter Try.func17, Try.ntmps17
        go_wp2_with fail
        refine C1.out.mono ?_
        rintro e w1 ⟨rfl, hw⟩
        rw [hw]
        clear hw w1
        go_wp2
        go_ret
        exact ⟨rfl, rfl⟩
set_option maxHeartbeats 4000000 in
theorem rBegin_yes (h : Has B w (XR x v dl A :: IRowR v tab :: rs) wr) (ht : may tab = true) (hd : 1 ≤ dl) (hd2 : dl ≤ 1073741824) (m : Nat) (now : Int) (h1 : 1 ≤ m) (h2 : m ≤ 60) (hn : Tick now) (hno : (A (m : Int)).isSome = false) :
    Calls Try.prog 17 #[.pointer (some ⟨x, 0, none⟩), .int .i64 (m : Int), .int .i64 now] wr fun e w' => e = .returned (.int .i64 0) ∧ Has B w (XR x v dl (upd A m (some (begW tab dl now))) :: IRowR v tab :: rs) w' := by
  obtain ⟨ct, cd, hc, hf⟩ := h.xr List.mem_cons_self
  have C1 : Hid (Calls Try.prog 37 #[.int .i64 now] wr fun e w' => e = .returned (.bool true) ∧ w' = wr) := by
    have y := refTick_any now wr
    rw [decide_eq_true hn] at y
    exact y
  have c : wr.cell? ⟨x, 2 + m * 5, none⟩ = some (xcell (A (m : Int)) 0) := hc m 0 (by omega) (by decide)
  rw [xcell_is, hno] at c
  have c1 : ∃ u, wr.cell? ⟨x, 2 + m * 5 + 1, none⟩ = some u := ⟨_, hc m 1 (by omega) (by decide)⟩
  have c2 : ∃ u, wr.cell? ⟨x, 2 + m * 5 + 2, none⟩ = some u := ⟨_, hc m 2 (by omega) (by decide)⟩
  have c3 : ∃ u, wr.cell? ⟨x, 2 + m * 5 + 3, none⟩ = some u := ⟨_, hc m 3 (by omega) (by decide)⟩
  have c4 : ∃ u, wr.cell? ⟨x, 2 + m * 5 + 4, none⟩ = some u := ⟨_, hc m 4 (by omega) (by decide)⟩
  obtain ⟨u1, c1⟩ := c1
  obtain ⟨u2, c2⟩ := c2
  obtain ⟨u3, c3⟩ := c3
  obtain ⟨u4, c4⟩ := c4
  have f0 := hf (2 + m * 5)
  have f1 := hf (2 + m * 5 + 1)
  have f2 := hf (2 + m * 5 + 2)
  have f3 := hf (2 + m * 5 + 3)
  have f4 := hf (2 + m * 5 + 4)
  have hd0 := dly_bounds ht 0
  obtain ⟨ao, cap, rfl, _⟩ := own_form (h.own (t := 3) (size := 1) (v := v) (n := tab.length) (xs := tab.map fun n => .int .i64 n) (by simp))
  obtain ⟨mm, g, o, rfl, hml, hmm, ctab⟩ := tab_cell (h.irow (v := .slice ao tab.length cap) (xs := tab) (by simp)) ht 0
  have hlN : 0 < tab.length := by omega
  obtain rfl : mm = 0 := by omega
  have ctab2 : wr.cell? ⟨g, o, none⟩ = some (.int .i64 (dly tab 0)) := ctab
  have H : Hid (Has B w (XR x (.slice (some ⟨g, o, none⟩) tab.length cap) dl (upd A m (some (begW tab dl now))) :: IRowR (.slice (some ⟨g, o, none⟩) tab.length cap) tab :: rs) (put5 wr x (2 + m * 5) (.bool true) (.int .i64 0) (.int .i64 (later now (dly tab 0))) (.int .i64 (later now dl)) (.bool false)).drew) := (h.xput m (by omega) (some (begW tab dl now))).below (Below.refl _ _).drew
  have m1 : min (now + dly tab 0) 1073741824 = later now (dly tab 0) := later_min hn (by omega)
  have m2 : min (now + dl) 1073741824 = later now dl := later_min hn (by omega)
  have w1 : IntKind.i64.wrap (now + dly tab 0) = now + dly tab 0 := by unfold Tick M at hn; rw [IntKind.wrap_i64] <;> omega
  have w2 : IntKind.i64.wrap (now + dl) = now + dl := by unfold Tick M at hn; rw [IntKind.wrap_i64] <;> omega
  have hm61 : (m : Int) < 61 := by omega
  have hm61n : m < 61 := by omega
  have d1 : decide ((m : Int) < 1) = false := by simp; omega
  have d2 : decide ((60 : Int) < (m : Int)) = false := by simp; omega
  clear h hc hf hno ctab hmm hml hn
  generalize later now (dly tab 0) = la at *
  generalize later now dl = lb at *
  generalize dly tab 0 = d0 at *
  go_enter Try.func17, Try.ntmps17
  go_wp2_with fail
  refine C1.out.mono ?_
  rintro e w1 ⟨rfl, hw⟩
  rw [hw]
  clear hw w1
  go_wp2_with fail
  go_region_law (fail)
  all_goals go_wp2
  all_goals go_ret
  all_goals exact ⟨rfl, H.out⟩
/-- What Begin answers, and does. -/
theorem rBegin (h : Has B w (XR x v dl A :: IRowR v tab :: rs) wr) (hA : AOk N A) (ht : may tab = true) (hd : 1 ≤ dl) (hd2 : dl ≤ 1073741824) (id now : Int) :
    Calls Try.prog 17 #[.pointer (some ⟨x, 0, none⟩), .int .i64 id, .int .i64 now] wr fun e w' => e = .returned (.int .i64 (code (begOk A id now))) ∧ Has B w (XR x v dl (begA tab dl A id now) :: IRowR v tab :: rs) w' := by
  cases hb : begOk A id now with
  | false =>
    have he : begA tab dl A id now = A := by unfold begA; rw [hb]; rfl
    rw [he]
    exact (rBegin_no h List.mem_cons_self hA id now hb).mono fun e w' ⟨he, hw⟩ => ⟨he, by rw [hw]; exact h⟩
  | true =>
    have he : begA tab dl A id now = upd A id (some (begW tab dl now)) := by unfold begA; rw [hb]; rfl
    rw [he]
    simp only [begOk, Bool.and_eq_true, decide_eq_true_eq] at hb
    obtain ⟨⟨⟨h1, h2⟩, hn⟩, hf⟩ := hb
    obtain ⟨m, rfl⟩ := Int.eq_ofNat_of_zero_le (show 0 ≤ id by omega)
    exact rBegin_yes h ht hd hd2 m now (by omega) (by omega) hn (by cases e : A (m : Int) with
      | none => rfl
      | some y => rw [e] at hf; cases hf)
theorem rMoved_no (h : Has B w rs wr) (hm : XR x v dl A ∈ rs) (hA : AOk N A) (id now : Int) (hno : movOk A id now = false) :
    Calls Try.prog 19 #[.pointer (some ⟨x, 0, none⟩), .int .i64 id, .int .i64 now] wr fun e w' => e = .returned (.int .i64 1) ∧ w' = wr := by
  have C1 : Hid (Calls Try.prog 37 #[.int .i64 now] wr fun e w' => e = .returned (.bool (decide (Tick now))) ∧ w' = wr) := refTick_any now wr
  have C2 : Hid (Calls Try.prog 38 #[.pointer (some ⟨x, 0, none⟩), .int .i64 id] wr fun e w' => e = .returned (.bool (A id).isSome) ∧ w' = wr) := rWaits_any h hm hA id
  unfold movOk at hno
  clear h hm
  generalize (A id).isSome = b at *
  cases b with
  | false =>
    clear hno C1
    go_enter Try.func19, Try.ntmps19
    go_wp2_with fail
    refine C2.out.mono ?_
    rintro e w1 ⟨rfl, hw⟩
    rw [hw]
    clear hw w1
    go_wp2
    go_ret
    exact ⟨rfl, rfl⟩
  | true =>
    have h3 : ¬ Tick now := by simpa using hno
    rw [decide_eq_false h3] at C1
    clear hno h3
    go_enter Try.func19, Try.ntmps19
    go_wp2_with fail
    refine C2.out.mono ?_
    rintro e w1 ⟨rfl, hw⟩
    rw [hw]
    clear hw w1
    go_wp2_with fail
    refine C1.out.mono ?_
    rintro e w1 ⟨rfl, hw⟩
    rw [hw]
    clear hw w1
    go_wp2
    go_ret
    exact ⟨rfl, rfl⟩
theorem upd_upd (A : Ws) (id : Int) (y z : Option Wt) : upd (upd A id y) id z = upd A id z := by
  funext j
  unfold upd
  by_cases e : j = id <;> simp [e]
set_option maxHeartbeats 4000000 in
theorem rMoved_yes (h : Has B w (XR x v dl A :: IRowR v tab :: rs) wr) (hA : AOk N A) (ht : may tab = true) (m : Nat) (now : Int) (h1 : 1 ≤ m) (h2 : m ≤ 60) (hn : Tick now) (y : Wt) (hy : A (m : Int) = some y) :
    Calls Try.prog 19 #[.pointer (some ⟨x, 0, none⟩), .int .i64 (m : Int), .int .i64 now] wr fun e w' => e = .returned (.int .i64 0) ∧ Has B w (XR x v dl (upd A m (some (movW tab now y))) :: IRowR v tab :: rs) w' := by
  obtain ⟨_, _, hc, hf⟩ := h.xr List.mem_cons_self
  have C1 : Hid (Calls Try.prog 37 #[.int .i64 now] wr fun e w' => e = .returned (.bool true) ∧ w' = wr) := by
    have y := refTick_any now wr
    rw [decide_eq_true hn] at y
    exact y
  have C2 : Hid (Calls Try.prog 38 #[.pointer (some ⟨x, 0, none⟩), .int .i64 (m : Int)] wr fun e w' => e = .returned (.bool true) ∧ w' = wr) := by
    have z := rWaits_any h List.mem_cons_self hA (m : Int)
    rw [hy] at z
    exact z
  have c1 := hc m 1 (by omega) (by decide)
  have f1 := hf (2 + m * 5 + 1)
  have H1 : Has B w (XR x v dl (upd A m (some ⟨0, y.again, y.late, y.told⟩)) :: IRowR v tab :: rs) (wr.setCell ⟨x, 2 + m * 5 + 1, none⟩ (.int .i64 0)) := h.xset m (by omega) 1 (by decide) (some ⟨0, y.again, y.late, y.told⟩) _ rfl (fun k hk hne => by
    rw [hy]
    rcases (show k = 0 ∨ k = 2 ∨ k = 3 ∨ k = 4 by omega) with rfl | rfl | rfl | rfl <;> rfl)
  obtain ⟨w1, hw1⟩ : ∃ w1, w1 = wr.setCell ⟨x, 2 + m * 5 + 1, none⟩ (.int .i64 0) := ⟨_, rfl⟩
  rw [← hw1] at H1
  have HW : Hid (w1 = wr.setCell ⟨x, 2 + m * 5 + 1, none⟩ (.int .i64 0)) := hw1
  obtain ⟨ct, _, hc2, hf2⟩ := H1.xr List.mem_cons_self
  have c2 := hc2 m 2 (by omega) (by decide)
  have f2 := hf2 (2 + m * 5 + 2)
  have hd0 := dly_bounds ht 0
  obtain ⟨ao, cap, rfl, _⟩ := own_form (h.own (t := 3) (size := 1) (v := v) (n := tab.length) (xs := tab.map fun n => .int .i64 n) (by simp))
  obtain ⟨mm, g, o, rfl, hml, hmm, ctab⟩ := tab_cell (H1.irow (v := .slice ao tab.length cap) (xs := tab) (by simp)) ht 0
  have hlN : 0 < tab.length := by omega
  obtain rfl : mm = 0 := by omega
  have ctab2 : w1.cell? ⟨g, o, none⟩ = some (.int .i64 (dly tab 0)) := ctab
  have H2 : Hid (Has B w (XR x (.slice (some ⟨g, o, none⟩) tab.length cap) dl (upd A m (some (movW tab now y))) :: IRowR (.slice (some ⟨g, o, none⟩) tab.length cap) tab :: rs) (w1.setCell ⟨x, 2 + m * 5 + 2, none⟩ (.int .i64 (later now (dly tab 0)))).drew) := by
    have z := (H1.xset m (by omega) 2 (by decide) (some (movW tab now y)) (.int .i64 (later now (dly tab 0))) rfl (fun k hk hne => by
      rw [upd_same]
      rcases (show k = 0 ∨ k = 1 ∨ k = 3 ∨ k = 4 by omega) with rfl | rfl | rfl | rfl <;> rfl)).below (Below.refl _ _).drew
    rw [upd_upd] at z
    exact z
  have m1 : min (now + dly tab 0) 1073741824 = later now (dly tab 0) := later_min hn (by omega)
  have w1' : IntKind.i64.wrap (now + dly tab 0) = now + dly tab 0 := by unfold Tick M at hn; rw [IntKind.wrap_i64] <;> omega
  have hm61 : (m : Int) < 61 := by omega
  have hm61n : m < 61 := by omega
  clear h hc hf hc2 hf2 ctab hmm hml hn H1 hw1 hy
  generalize later now (dly tab 0) = la at *
  generalize dly tab 0 = d0 at *
  go_enter Try.func19, Try.ntmps19
  go_wp2_with fail
  refine C2.out.mono ?_
  rintro e w3 ⟨rfl, hw⟩
  rw [hw]
  clear hw w3
  go_wp2_with fail
  refine C1.out.mono ?_
  rintro e w3 ⟨rfl, hw⟩
  rw [hw]
  clear hw w3 C1 C2
  go_upto_region 4 with fail
  rw [← HW.out]
  clear HW c1 f1
  go_wp2_with fail
  go_region_law (fail)
  all_goals go_wp2
  all_goals go_ret
  all_goals exact ⟨rfl, H2.out⟩
/-- What Moved answers, and does. -/
theorem rMoved (h : Has B w (XR x v dl A :: IRowR v tab :: rs) wr) (hA : AOk N A) (ht : may tab = true) (id now : Int) :
    Calls Try.prog 19 #[.pointer (some ⟨x, 0, none⟩), .int .i64 id, .int .i64 now] wr fun e w' => e = .returned (.int .i64 (code (movOk A id now))) ∧ Has B w (XR x v dl (movA tab A id now) :: IRowR v tab :: rs) w' := by
  cases hb : movOk A id now with
  | false =>
    have he : movA tab A id now = A := by unfold movA; rw [hb]; rfl
    rw [he]
    exact (rMoved_no h List.mem_cons_self hA id now hb).mono fun e w' ⟨he, hw⟩ => ⟨he, by rw [hw]; exact h⟩
  | true =>
    have he : movA tab A id now = upd A id ((A id).map (movW tab now)) := by unfold movA; rw [hb]; rfl
    simp only [movOk, Bool.and_eq_true, decide_eq_true_eq] at hb
    obtain ⟨hf, hn⟩ := hb
    obtain ⟨y, hy⟩ := Option.isSome_iff_exists.1 hf
    obtain ⟨h1, h2, _⟩ := hA id y hy
    rw [he, hy]
    obtain ⟨m, rfl⟩ := Int.eq_ofNat_of_zero_le (show 0 ≤ id by omega)
    exact rMoved_yes h hA ht m now (by omega) (by omega) hn y hy
/-- What Stop answers, and does. -/
theorem rStop (h : Has B w (XR x v dl A :: rs) wr) (hA : AOk N A) (id : Int) :
    Calls Try.prog 21 #[.pointer (some ⟨x, 0, none⟩), .int .i64 id] wr fun e w' => e = .returned (.int .i64 (code (A id).isSome)) ∧ Has B w (XR x v dl (stpA A id) :: rs) w' := by
  have C2 : Hid (Calls Try.prog 38 #[.pointer (some ⟨x, 0, none⟩), .int .i64 id] wr fun e w' => e = .returned (.bool (A id).isSome) ∧ w' = wr) := rWaits_any h List.mem_cons_self hA id
  cases hx : A id with
  | none =>
    have he : stpA A id = A := by
      funext j
      unfold stpA upd
      by_cases e : j = id
      · subst e; simp [hx]
      · simp [e]
    rw [he]
    rw [hx] at C2
    have H : Hid (Has B w (XR x v dl A :: rs) wr) := h
    clear h hx he
    go_enter Try.func21, Try.ntmps21
    go_wp2_with fail
    refine C2.out.mono ?_
    rintro e w1 ⟨rfl, hw⟩
    rw [hw]
    clear hw w1
    go_wp2
    go_ret
    exact ⟨rfl, H.out⟩
  | some y =>
    obtain ⟨h1, h2, _⟩ := hA id y hx
    rw [hx] at C2
    obtain ⟨m, rfl⟩ := Int.eq_ofNat_of_zero_le (show 0 ≤ id by omega)
    obtain ⟨_, _, hc, hf⟩ := h.xr List.mem_cons_self
    have c0 : wr.cell? ⟨x, 2 + m * 5, none⟩ = some (xcell (A (m : Int)) 0) := hc m 0 (by omega) (by decide)
    have c1 := hc m 1 (by omega) (by decide)
    have c2 := hc m 2 (by omega) (by decide)
    have c3 := hc m 3 (by omega) (by decide)
    have c4 := hc m 4 (by omega) (by decide)
    have f0 := hf (2 + m * 5)
    have f1 := hf (2 + m * 5 + 1)
    have f2 := hf (2 + m * 5 + 2)
    have f3 := hf (2 + m * 5 + 3)
    have f4 := hf (2 + m * 5 + 4)
    have H : Hid (Has B w (XR x v dl (stpA A m) :: rs) (put5 wr x (2 + m * 5) (.bool false) (.int .i64 0) (.int .i64 0) (.int .i64 0) (.bool false))) := h.xput m (by omega) none
    have hm61 : (m : Int) < 61 := by omega
    have hm61n : m < 61 := by omega
    clear h hc hf hx
    go_enter Try.func21, Try.ntmps21
    go_wp2_with fail
    refine C2.out.mono ?_
    rintro e w1 ⟨rfl, hw⟩
    rw [hw]
    clear hw w1
    go_wp2
    go_ret
    exact ⟨rfl, H.out⟩
end
end Go.Proofs.Yteadnjagandkfaa
