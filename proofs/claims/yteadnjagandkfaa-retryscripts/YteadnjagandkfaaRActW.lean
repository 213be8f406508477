/- The walks of New, Delay, Moved, Begin, Stop, rising. -/
import Derived.Test.YteadnjagandkfaaRNewW
import Derived.Test.YteadnjagandkfaaShelf
import Derived.Sort.OwnSortedInts
import Derived.Lib.RowBridge
set_option linter.unusedVariables false
set_option maxRecDepth 100000
namespace Go.Proofs.Yteadnjagandkfaa
open Go.RowKit
open WheelMath RetryMath
open Go.Maps (Keyed)

theorem five_turn (a b c d e : Res) (rs : List Res) : (a :: b :: c :: d :: e :: rs).Perm (d :: e :: c :: b :: a :: rs) := by
  have h1 : (a :: b :: c :: d :: e :: rs).Perm (d :: a :: b :: c :: e :: rs) := List.perm_middle (l₁ := [a, b, c]) (l₂ := e :: rs) (a := d)
  have h2 : (a :: b :: c :: e :: rs).Perm (e :: a :: b :: c :: rs) := List.perm_middle (l₁ := [a, b, c]) (l₂ := rs) (a := e)
  have h3 : (a :: b :: c :: rs).Perm (c :: a :: b :: rs) := List.perm_middle (l₁ := [a, b]) (l₂ := rs) (a := c)
  have h4 : (a :: b :: rs).Perm (b :: a :: rs) := List.Perm.swap _ _ _
  exact h1.trans ((h2.trans ((h3.trans (h4.cons c)).cons e)).cons d)
section
variable {B : Nat} {w wr : World} {rs : List Res}
theorem Has.map0 (h : Has B w rs wr) : Has B w (MapR wr.heap.size 0 (fun _ => none) :: rs) (wr.alloc (.map #[] 0)) :=
  h.add (new := [MapR wr.heap.size 0 (fun _ => none)]) ((Below.refl _ _).alloc (Nat.le_refl _) _) (Hold.one ⟨⟨_, World.ownsMap_made wr Try.prog 3 _, agrI_start⟩, rfl⟩) (fun k hk => by rw [hk]; exact Nat.le_refl _)
theorem new_no (h : Has B w rs wr) (v : Value) (tab : List Int) (hl : tab.length ≤ 140737488355328) (hr : IRow wr v tab) (dl : Int) (hm : may tab = false) :
    Calls Try.prog 8 #[v, .int .i64 dl] wr fun e w' => e = .returned (.tuple #[.pointer none, .int .i64 200]) ∧ Has B w rs w' := by
  have hr1 := irow_below hr ((Below.refl wr.heap.size wr).alloc (Nat.le_refl _) (.cells #[v] 22))
  have C1 : Hid (Calls Try.prog 26 #[v] (wr.alloc (.cells #[v] 22)) fun e w' => e = .returned (.bool false) ∧ w' = wr.alloc (.cells #[v] 22)) := by
    have x := mayBe_any v tab hl _ hr1
    rw [hm] at x
    exact x
  have HH : Hid (Has B w rs (wr.alloc (.cells #[v] 22))) := h.below ((Below.refl _ _).alloc (Nat.le_refl _) _)
  obtain ⟨ao, cap, rfl, _⟩ := hr
  clear h hm hr1
  go_enter Try.func8, Try.ntmps8
  go_wp2_with fail
  refine C1.out.mono ?_
  rintro e w1 ⟨rfl, hw⟩
  rw [hw]
  clear hw w1
  go_wp2
  go_ret2
  exact ⟨rfl, HH.out⟩
theorem new_bad (h : Has B w rs wr) (v : Value) (tab : List Int) (hl : tab.length ≤ 140737488355328) (hr : IRow wr v tab) (dl : Int) (hm : may tab = true) (hd : dl < 1 ∨ 1073741824 < dl) :
    Calls Try.prog 8 #[v, .int .i64 dl] wr fun e w' => e = .returned (.tuple #[.pointer none, .int .i64 1]) ∧ Has B w rs w' := by
  have hr1 := irow_below hr ((Below.refl wr.heap.size wr).alloc (Nat.le_refl _) (.cells #[v] 22))
  have C1 : Hid (Calls Try.prog 26 #[v] (wr.alloc (.cells #[v] 22)) fun e w' => e = .returned (.bool true) ∧ w' = wr.alloc (.cells #[v] 22)) := by
    have x := mayBe_any v tab hl _ hr1
    rw [hm] at x
    exact x
  have HH : Hid (Has B w rs (wr.alloc (.cells #[v] 22))) := h.below ((Below.refl _ _).alloc (Nat.le_refl _) _)
  obtain ⟨ao, cap, rfl, _⟩ := hr
  clear h hm hr1
  by_cases h1 : dl < 1
  · have d1 : decide (dl < 1) = true := by simpa using h1
    clear hd
    go_enter Try.func8, Try.ntmps8
    go_wp2_with fail
    refine C1.out.mono ?_
    rintro e w1 ⟨rfl, hw⟩
    rw [hw]
    clear hw w1
    go_wp2
    go_ret2
    exact ⟨rfl, HH.out⟩
  · have d1 : decide (dl < 1) = false := by simpa using h1
    have h2 : 1073741824 < dl := by omega
    have d2 : decide (1073741824 < dl) = true := by simpa using h2
    clear hd
    go_enter Try.func8, Try.ntmps8
    go_wp2_with fail
    refine C1.out.mono ?_
    rintro e w1 ⟨rfl, hw⟩
    rw [hw]
    clear hw w1
    go_wp2
    go_ret2
    exact ⟨rfl, HH.out⟩
set_option maxHeartbeats 4000000 in
theorem new_yes (h : Has B w rs wr) (v : Value) (tab : List Int) (hl : tab.length ≤ 140737488355328) (hr : IRow wr v tab) (dl : Int) (hm : may tab = true) (hd : 1 ≤ dl) (hd2 : dl ≤ 1073741824) :
    Calls Try.prog 8 #[v, .int .i64 dl] wr fun e w' => ∃ p, e = .returned (.tuple #[.pointer (some ⟨p.q, 0, none⟩), .int .i64 0]) ∧ Has B w (Rt p 0 tab dl (fun _ => none) [] [] rs) w' := by
  have hl8 := (may_bounds hm).2.1
  have hmm := @run_makeMap Try.prog
  have hr1 := irow_below hr ((Below.refl wr.heap.size wr).alloc (Nat.le_refl _) (.cells #[v] 22))
  have h1 : Has B w (BlockR wr.heap.size [v] :: rs) (wr.alloc (.cells #[v] 22)) := h.box [v] 22
  obtain ⟨qt, hqt⟩ : ∃ qt, qt = wr.heap.size := ⟨_, rfl⟩
  obtain ⟨w1, hw1⟩ : ∃ w1, w1 = wr.alloc (.cells #[v] 22) := ⟨_, rfl⟩
  rw [← hw1, ← hqt] at h1
  rw [← hw1] at hr1
  have HQ : Hid (qt = wr.heap.size) := hqt
  have HW : Hid (w1 = wr.alloc (.cells #[v] 22)) := hw1
  have C1 : Hid (Calls Try.prog 26 #[v] w1 fun e w' => e = .returned (.bool true) ∧ w' = w1) := by
    have x := mayBe_any v tab hl _ hr1
    rw [hm] at x
    exact x
  have C2 : Hid (Calls Try.prog 27 #[v] w1 fun e w' => AllOk w1 tab e w') := clone_any w1 v tab (by omega) hr1
  have H1 : Hid (Has B w (BlockR qt [v] :: rs) w1) := h1
  have c0 := (h1.cell List.mem_cons_self 0 _ rfl).1
  have CW : Hid (∀ wq rs, Has B w rs wq → Calls Try.prog 31 #[] wq fun e w' => ∃ b, e = .returned (.pointer (some ⟨b, 0, none⟩)) ∧ Hid (Has B w (WhR b [] :: rs) w')) := fun wq rs hq => wnew_any hq
  obtain ⟨ao, cap, rfl, _⟩ := hr
  have d1 : decide (dl < 1) = false := by simp; omega
  have d2 : decide (1073741824 < dl) = false := by simp; omega
  clear h hm hr1 h1 hqt hw1 hl8
  go_enter Try.func8, Try.ntmps8
  go_wp2_with fail
  rw [← HW.out, ← HQ.out]
  clear HW HQ
  go_wp2_with fail
  refine C1.out.mono ?_
  rintro e w2 ⟨rfl, hw⟩
  rw [hw]
  clear hw w2 C1
  go_wp2_with fail
  refine C2.out.mono ?_
  rintro e w2 ⟨vi, rfl, ho, hb⟩
  have h2 : Has B w (IRowR vi tab :: BlockR qt [.slice ao tab.length cap] :: rs) w2 := H1.out.row ho hb
  have h3 : Has B w (BlockR qt [vi] :: IRowR vi tab :: rs) (w2.setCell ⟨qt, 0, none⟩ vi) := (h2.perm (List.Perm.swap _ _ _)).put 0 (by show 0 < 1; omega) vi
  have c2 := (h2.cell (q := qt) (vs := [.slice ao tab.length cap]) (by simp) 0 _ rfl).1
  have f2 := (h2.cell (q := qt) (vs := [.slice ao tab.length cap]) (by simp) 0 _ rfl).2
  obtain ⟨ai, ci, rfl, _⟩ := own_form ho
  have h4 := h3.map0
  rw [show (w2.setCell ⟨qt, 0, none⟩ (.slice ai tab.length ci)).heap.size = w2.heap.size by simp] at h4
  have H4 : Hid (Has B w (MapR w2.heap.size 0 (fun _ => none) :: BlockR qt [.slice ai tab.length ci] :: IRowR (.slice ai tab.length ci) tab :: rs) ((w2.setCell ⟨qt, 0, none⟩ (.slice ai tab.length ci)).alloc (.map #[] 0))) := h4
  clear C2 ho hb h2 h3 h4 H1 c0
  go_wp2_with fail
  refine (CW.out _ _ H4.out).mono ?_
  rintro e w5 ⟨ba, rfl, H5⟩
  clear H4 c2 f2
  go_wp2_with fail
  refine (CW.out _ _ H5.out).mono ?_
  rintro e w6 ⟨bb, rfl, H6⟩
  have H7 : Hid (Has B w (Rt ⟨w6.heap.size, qt, w2.heap.size, ba, bb, .slice ai tab.length ci⟩ 0 tab dl (fun _ => none) [] [] rs) (w6.alloc (.cells (rcells qt w2.heap.size ba bb dl).toArray 56))) := (H6.out.box (rcells qt w2.heap.size ba bb dl) 56).perm (List.Perm.cons _ (five_turn _ _ _ _ _ rs))
  clear H5 H6 CW
  go_wp2
  go_ret2
  exact ⟨⟨w6.heap.size, qt, w2.heap.size, ba, bb, .slice ai tab.length ci⟩, rfl, H7.out⟩
/-- What Delay answers. -/
theorem delayF_any (v : Value) (tab : List Int) (hl : tab.length ≤ 140737488355328) (hr : IRow wr v tab) (k : Int) (hk : k ≤ 9223372036854775807) :
    Calls Try.prog 11 #[v, .int .i64 k] wr fun e w' => (may tab = false → e = .returned (.tuple #[.int .i64 0, .int .i64 200])) ∧ (may tab = true → k < 0 → e = .returned (.tuple #[.int .i64 0, .int .i64 1])) ∧ (may tab = true → 0 ≤ k → e = .returned (.tuple #[.int .i64 (dly tab k), .int .i64 0])) ∧ w' = wr := by
  have C1 : Hid (Calls Try.prog 26 #[v] wr fun e w' => e = .returned (.bool (may tab)) ∧ w' = wr) := mayBe_any v tab hl _ hr
  have C2 : Hid (may tab = true → 0 ≤ k → Calls Try.prog 29 #[v, .int .i64 k] wr fun e w' => e = .returned (.int .i64 (dly tab k)) ∧ w' = wr) := fun hm hk0 => delayOf_any v tab (may_bounds hm).1 (may_bounds hm).2.1 k hk0 hk wr hr
  obtain ⟨ao, cap, rfl, _⟩ := hr
  generalize may tab = m at *
  cases m with
  | false =>
    clear C2
    go_enter Try.func11, Try.ntmps11
    go_wp2_with fail
    refine C1.out.mono ?_
    rintro e w1 ⟨rfl, hw⟩
    rw [hw]
    clear hw w1
    go_wp2
    go_ret2
    exact ⟨fun _ => rfl, (fun h => by cases h), (fun h => by cases h), rfl⟩
  | true =>
    by_cases hk0 : k < 0
    · have d1 : decide (k < 0) = true := by simpa using hk0
      clear C2
      go_enter Try.func11, Try.ntmps11
      go_wp2_with fail
      refine C1.out.mono ?_
      rintro e w1 ⟨rfl, hw⟩
      rw [hw]
      clear hw w1
      go_wp2
      go_ret2
      exact ⟨(fun h => by cases h), fun _ _ => rfl, fun _ h => by omega, rfl⟩
    · have d1 : decide (k < 0) = false := by simpa using hk0
      have C3 := C2.out rfl (by omega)
      clear C2
      generalize dly tab k = d at *
      go_enter Try.func11, Try.ntmps11
      go_wp2_with fail
      refine C1.out.mono ?_
      rintro e w1 ⟨rfl, hw⟩
      rw [hw]
      clear hw w1
      go_wp2_with fail
      refine C3.mono ?_
      rintro e w1 ⟨rfl, hw⟩
      rw [hw]
      clear hw w1
      go_wp2
      go_ret2
      exact ⟨(fun h => by cases h), fun _ h => by omega, fun _ _ => rfl, rfl⟩
end
end Go.Proofs.Yteadnjagandkfaa
