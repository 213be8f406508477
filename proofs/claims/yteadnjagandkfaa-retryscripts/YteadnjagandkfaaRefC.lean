/- The document's New, waits, Begin, Moved, Stop. -/
import Derived.Test.YteadnjagandkfaaRefB
set_option linter.unusedVariables false
set_option maxRecDepth 100000
namespace Go.Proofs.Yteadnjagandkfaa
open Go.RowKit
open WheelMath RetryMath
open Go.Maps (Keyed)

def zrow : Nat → List Value
  | 0 => []
  | n + 1 => .bool false :: .int .i64 0 :: .int .i64 0 :: .int .i64 0 :: .bool false :: zrow n
theorem zrow_at : ∀ (n i k : Nat), i < n → k < 5 → (zrow n)[i * 5 + k]? = some (xcell none k)
  | n + 1, 0, k, _, hk => by
    rcases (show k = 0 ∨ k = 1 ∨ k = 2 ∨ k = 3 ∨ k = 4 by omega) with rfl | rfl | rfl | rfl | rfl <;> rfl
  | n + 1, i + 1, k, hi, hk => by
    have := zrow_at n i k (by omega) hk
    rw [show (i + 1) * 5 + k = i * 5 + k + 1 + 1 + 1 + 1 + 1 by omega]
    exact this
theorem zero_cells : Try.zeroCells61.toList = .slice none 0 0 :: .int .i64 0 :: zrow 61 := by kernel_rfl
theorem zero_size : Try.zeroCells61.size = 307 := by kernel_rfl
theorem xr_new (w : World) (dl : Int) : (XR w.heap.size (.slice none 0 0) dl none0).inv (w.alloc (.cells (Try.zeroCells61.setIfInBounds 1 (.int .i64 dl)) 61)) (fun k => k = w.heap.size) := by
  have at0 : ∀ j, (Try.zeroCells61)[j]? = (Value.slice none 0 0 :: Value.int .i64 0 :: zrow 61)[j]? := fun j => by rw [← zero_cells, Array.getElem?_toList]
  refine ⟨?_, ?_, fun i k hi hk => ?_, fun j => by rw [World.frozen?_alloc_at _ _ _ _ rfl], by simp, rfl⟩
  · rw [World.cell?_alloc_new, Array.getElem?_setIfInBounds_ne (by omega), at0]; rfl
  · rw [World.cell?_alloc_new, Array.getElem?_setIfInBounds_self_of_lt (by rw [zero_size]; omega)]
  · rw [World.cell?_alloc_new, Array.getElem?_setIfInBounds_ne (by omega), at0]
    rw [show 2 + i * 5 + k = i * 5 + k + 1 + 1 by omega]
    exact zrow_at 61 i k hi hk
section
variable {B : Nat} {w wr : World} {x : Nat} {v : Value} {dl : Int} {A : Ws} {tab : List Int} {rs : List Res}
theorem Has.xtab (h : Has B w (XR x v dl A :: rs) wr) (u : Value) : Has B w (XR x u dl A :: rs) (wr.setCell ⟨x, 0, none⟩ u) := by
  refine h.turn (new := [XR x u dl A]) ?_
  rintro F ⟨h0, h1, h2, h3, h4, rfl⟩
  refine ⟨_, Hold.one ⟨World.cell?_setCell_same _ _ _ h0, ?_, fun i k hi hk2 => ?_, fun j => by rw [World.frozen?_setCell]; exact h3 j, by simpa using h4, rfl⟩, chg_one _ _ _ _, fun k hk => Or.inl hk⟩
  · rw [cell_other (by omega)]; exact h1
  · rw [cell_other (by omega)]; exact h2 i k hi hk2
theorem rNew_no (h : Has B w rs wr) (hl : tab.length ≤ 140737488355328) (hr : IRow wr v tab) (hm : may tab = false) :
    Calls Try.prog 9 #[v, .int .i64 dl] wr fun e w' => e = .returned (.tuple #[.pointer none, .int .i64 200]) ∧ Has B w rs w' := by
  have C1 : Hid (Calls Try.prog 32 #[v] wr fun e w' => e = .returned (.bool false) ∧ Below wr.heap.size wr w') := by
    have x := refMay_any v tab hl wr hr
    rw [hm] at x
    exact x
  have H : Hid (Has B w rs wr) := h
  obtain ⟨ao, cap, rfl, _⟩ := hr
  clear h hm
  go_enter Try.func9, Try.ntmps9
  go_wp2_with fail
  refine C1.out.mono ?_
  rintro e w1 ⟨rfl, hb⟩
  go_wp2
  go_ret2
  exact ⟨rfl, H.out.below hb⟩
theorem rNew_bad (h : Has B w rs wr) (hl : tab.length ≤ 140737488355328) (hr : IRow wr v tab) (hm : may tab = true) (hd : dl < 1 ∨ 1073741824 < dl) :
    Calls Try.prog 9 #[v, .int .i64 dl] wr fun e w' => e = .returned (.tuple #[.pointer none, .int .i64 1]) ∧ Has B w rs w' := by
  have C1 : Hid (Calls Try.prog 32 #[v] wr fun e w' => e = .returned (.bool true) ∧ Below wr.heap.size wr w') := by
    have x := refMay_any v tab hl wr hr
    rw [hm] at x
    exact x
  have H : Hid (Has B w rs wr) := h
  obtain ⟨ao, cap, rfl, _⟩ := hr
  clear h hm
  by_cases h1 : dl < 1
  · have d1 : decide (dl < 1) = true := by simpa using h1
    clear hd
    go_enter Try.func9, Try.ntmps9
    go_wp2_with fail
    refine C1.out.mono ?_
    rintro e w1 ⟨rfl, hb⟩
    go_wp2
    go_ret2
    exact ⟨rfl, H.out.below hb⟩
  · have d1 : decide (dl < 1) = false := by simpa using h1
    have h2 : 1073741824 < dl := by omega
    have d2 : decide (1073741824 < dl) = true := by simpa using h2
    clear hd
    go_enter Try.func9, Try.ntmps9
    go_wp2_with fail
    refine C1.out.mono ?_
    rintro e w1 ⟨rfl, hb⟩
    go_wp2
    go_ret2
    exact ⟨rfl, H.out.below hb⟩
set_option maxHeartbeats 4000000 in
theorem rNew_yes (h : Has B w rs wr) (hl : tab.length ≤ 140737488355328) (hr : IRow wr v tab) (hm : may tab = true) (hd : 1 ≤ dl) (hd2 : dl ≤ 1073741824) :
    Calls Try.prog 9 #[v, .int .i64 dl] wr fun e w' => ∃ x ao cap, e = .returned (.tuple #[.pointer (some ⟨x, 0, none⟩), .int .i64 0]) ∧ Has B w (XR x (.slice ao tab.length cap) dl none0 :: IRowR (.slice ao tab.length cap) tab :: rs) w' := by
  obtain ⟨i0, hi, hz0, hz1, hz2⟩ := info_parts infoI
  have C1 : Hid (Calls Try.prog 32 #[v] wr fun e w' => e = .returned (.bool true) ∧ Below wr.heap.size wr w') := by
    have x := refMay_any v tab hl wr hr
    rw [hm] at x
    exact x
  have H : Hid (Has B w rs wr) := h
  have HR : Hid (IRow wr v tab) := hr
  have hl8 := (may_bounds hm).2.1
  have hl1 := (may_bounds hm).1
  obtain ⟨ao, cap, rfl, hcap, hn0, hrow⟩ := hr
  obtain ⟨p, rfl⟩ : ∃ p, ao = some p := by
    cases ao with
    | none => obtain ⟨_, _, e, _⟩ := hrow 0 (by omega); cases e
    | some p => exact ⟨p, rfl⟩
  have d1 : decide (dl < 1) = false := by simp; omega
  have d2 : decide (1073741824 < dl) = false := by simp; omega
  clear h hm hrow hn0
  go_enter Try.func9, Try.ntmps9
  go_wp2_with fail
  refine C1.out.mono ?_
  rintro e w1 ⟨rfl, hb⟩
  have h1 := H.out.below hb
  have h2 : Has B w (XR w1.heap.size (.slice none 0 0) dl none0 :: rs) (w1.alloc (.cells (Try.zeroCells61.setIfInBounds 1 (.int .i64 dl)) 61)) :=
    h1.add (new := [XR w1.heap.size (.slice none 0 0) dl none0]) ((Below.refl _ _).alloc (Nat.le_refl _) _) (Hold.one (xr_new w1 dl)) (fun k hk => by rw [hk]; exact Nat.le_refl _)
  have hr2 : IRow (w1.alloc (.cells (Try.zeroCells61.setIfInBounds 1 (.int .i64 dl)) 61)) (.slice (some p) tab.length cap) tab := irow_below (irow_below HR.out hb) ((Below.refl _ _).alloc (Nat.le_refl _) _)
  obtain ⟨w2, hw2⟩ : ∃ w2, w2 = w1.alloc (.cells (Try.zeroCells61.setIfInBounds 1 (.int .i64 dl)) 61) := ⟨_, rfl⟩
  rw [← hw2] at h2 hr2
  have HW : Hid (w2 = w1.alloc (.cells (Try.zeroCells61.setIfInBounds 1 (.int .i64 dl)) 61)) := hw2
  obtain ⟨x, hx⟩ : ∃ x, x = w1.heap.size := ⟨_, rfl⟩
  rw [← hx] at h2
  have HX : Hid (x = w1.heap.size) := hx
  have H2 : Hid (Has B w (XR x (.slice none 0 0) dl none0 :: rs) w2) := h2
  obtain ⟨c0, _, _, f⟩ := h2.xr List.mem_cons_self
  have f0 := f 0
  have hsrc : ∀ j u, (tab.map fun n => Value.int .i64 n)[j]? = some u → w2.cell? (p.add j) = some u := fun j u hu => by
    have hj : j < tab.length := by rw [← iv_len tab]; exact (List.getElem?_eq_some_iff.1 hu).1
    obtain ⟨_, _, e9, _, _, hrr⟩ := hr2
    cases e9
    obtain ⟨g, o, k0, _, k2⟩ := hrr j hj
    cases k0
    rw [Addr.add_lit, k2]
    simp [hj] at hu
    rw [hu]
  clear hw2 hx h1 h2 hr2 f hb C1 H HR
  go_upto_region 6 with fail
  rw [← HW.out, ← HX.out]
  clear HW HX
  go_wp2_with (at_builtin; refine wpList_append_any _ rfl _ _ 22 rfl w2.heap.size 3 i0 (.int .i64 0) 1 8 Try.underlying22 hi hz0 hz1 hz2 rfl (by decide) w2 (Below.refl _ _) (Nat.le_refl _) _ 0 [] rfl (World.ownsRow_nil _ _ _ _) (some p) tab.length cap (tab.map fun n => .int .i64 n) rfl (by rw [iv_len, Nat.mul_one]) (Or.inr ⟨_, rfl, hsrc⟩) (iv_one _) (by unfold maxLen; omega) (by omega) ?_)
  intro ao' cap' w3 k1 k2 k3
  have h3 : Has B w (IRowR (.slice ao' tab.length cap') tab :: XR x (.slice none 0 0) dl none0 :: rs) w3 := H2.out.row k1 k2
  have hs3 := h3.perm (List.Perm.swap _ _ _)
  have HS : Hid (Has B w (XR x (.slice ao' tab.length cap') dl none0 :: IRowR (.slice ao' tab.length cap') tab :: rs) (w3.setCell ⟨x, 0, none⟩ (.slice ao' tab.length cap'))) := hs3.xtab _
  obtain ⟨c3, _, _, f3⟩ := hs3.xr List.mem_cons_self
  have g3 := f3 0
  clear k1 k2 k3 h3 hs3 H2 hsrc c0 f0 f3
  go_wp2
  go_ret2
  exact ⟨x, ao', cap', rfl, HS.out⟩
theorem xcell_is (y : Option Wt) : xcell y 0 = .bool y.isSome := by cases y <;> rfl
theorem rWaits_any {N : Int} (h : Has B w rs wr) (hm : XR x v dl A ∈ rs) (hA : AOk N A) (id : Int) :
    Calls Try.prog 38 #[.pointer (some ⟨x, 0, none⟩), .int .i64 id] wr fun e w' => e = .returned (.bool (A id).isSome) ∧ w' = wr := by
  obtain ⟨_, _, hc, _⟩ := h.xr hm
  have HN : Hid (¬ (1 ≤ id ∧ id ≤ 60) → (A id).isSome = false) := fun hn => by
    cases e : A id with
    | none => rfl
    | some y => have := hA id y e; exact absurd ⟨this.1, this.2.1⟩ hn
  by_cases h1 : 1 ≤ id
  · by_cases h2 : id ≤ 60
    · obtain ⟨m, rfl⟩ := Int.eq_ofNat_of_zero_le (show 0 ≤ id by omega)
      have c : wr.cell? ⟨x, 2 + m * 5, none⟩ = some (xcell (A (m : Int)) 0) := hc m 0 (by omega) (by decide)
      rw [xcell_is] at c
      have hm61 : (m : Int) < 61 := by omega
      have hm61n : m < 61 := by omega
      clear HN hc h hm hA
      generalize (A (m : Int)).isSome = b at *
      go_enter Try.func38, Try.ntmps38
      go_wp2
      go_ret
      exact ⟨rfl, rfl⟩
    · have e := HN.out (by omega)
      rw [e]
      clear HN hc h hm hA e
      go_enter Try.func38, Try.ntmps38
      go_wp2
      go_ret
      exact ⟨rfl, rfl⟩
  · have e := HN.out (by omega)
    rw [e]
    clear HN hc h hm hA e
    go_enter Try.func38, Try.ntmps38
    go_wp2
    go_ret
    exact ⟨rfl, rfl⟩
end
end Go.Proofs.Yteadnjagandkfaa
