/- The laws RetryMakes and RetryDelays, walked. -/
import Derived.Test.YteadnjagandkfaaRefE
set_option linter.unusedVariables false
set_option maxRecDepth 100000
namespace Go.Proofs.Yteadnjagandkfaa
open Go.RowKit
open WheelMath RetryMath
open Go.Maps (Keyed)

set_option maxHeartbeats 4000000 in
theorem makes_walk (v : Value) (raw : List Int) (hl : raw.length ≤ 140737488355328) (dl : Int) (hdl : I64 dl) (w : World) (hr : IRow w v raw) :
    Calls Try.prog 3 #[v, .int .i64 dl] w fun e w' => e = .returned (.bool true) ∧ Below w.heap.size w w' := by
  have HR : Hid (∀ wq rs, Has w.heap.size w rs wq → IRow wq v raw) := fun wq rs hq => irow_below hr hq.bel
  have CL : Hid (∀ wq rs, Has w.heap.size w rs wq → Calls Try.prog 10 #[] wq fun e w' => e = .returned (.bool true) ∧ Below w.heap.size w w') := fun wq rs hq => (live_any hq).mono (fun e w' ⟨he, hh⟩ => ⟨he, hh.bel⟩)
  by_cases hm : may raw = true
  · by_cases hd : 1 ≤ dl ∧ dl ≤ 1073741824
    · have C1 : Hid (Calls Try.prog 8 #[v, .int .i64 dl] w fun e w' => ∃ q, e = .returned (.tuple #[.pointer (some ⟨q, 0, none⟩), .int .i64 0]) ∧ Hid (Has w.heap.size w [RtR q raw dl 0 none0] w')) := pNew_yes (Has.start w) v raw hl hr dl hm hd.1 hd.2
      have C2 : Hid (∀ q wq, Has w.heap.size w [RtR q raw dl 0 none0] wq → Calls Try.prog 9 #[v, .int .i64 dl] wq fun e w' => ∃ x, e = .returned (.tuple #[.pointer (some ⟨x, 0, none⟩), .int .i64 0]) ∧ Hid (∃ rs, Has w.heap.size w rs w')) := fun q wq hq => (rNew_yes hq hl (HR.out _ _ hq) hm hd.1 hd.2).mono (fun e w' ⟨x, ao, cap, he, hh⟩ => ⟨x, he, _, hh⟩)
      obtain ⟨ao, cap, rfl, _⟩ := hr
      clear HR hm hd
      go_enter Try.func3, Try.ntmps3
      go_wp2_with fail
      refine C1.out.mono ?_
      rintro e w1 ⟨q, rfl, h1⟩
      have D2 := C2.out _ _ h1.out
      clear C1 C2 h1
      go_wp2_with fail
      refine D2.mono ?_
      rintro e w2 ⟨x, rfl, h2⟩
      obtain ⟨rs, h2⟩ := h2.out
      have D3 := CL.out _ _ h2
      clear D2 CL h2
      go_wp2_with fail
      refine D3.mono ?_
      rintro e w3 ⟨rfl, h3⟩
      go_wp2
      go_ret
      exact ⟨rfl, h3⟩
    · have hd2 : dl < 1 ∨ 1073741824 < dl := by omega
      have C1 : Hid (Calls Try.prog 8 #[v, .int .i64 dl] w fun e w' => e = .returned (.tuple #[.pointer none, .int .i64 1]) ∧ Has w.heap.size w [] w') := new_bad (Has.start w) v raw hl hr dl hm hd2
      have C2 : Hid (∀ wq, Has w.heap.size w [] wq → Calls Try.prog 9 #[v, .int .i64 dl] wq fun e w' => e = .returned (.tuple #[.pointer none, .int .i64 1]) ∧ Has w.heap.size w [] w') := fun wq hq => rNew_bad hq hl (HR.out _ _ hq) hm hd2
      obtain ⟨ao, cap, rfl, _⟩ := hr
      clear HR hm hd hd2
      go_enter Try.func3, Try.ntmps3
      go_wp2_with fail
      refine C1.out.mono ?_
      rintro e w1 ⟨rfl, h1⟩
      have D2 := C2.out _ h1
      clear C1 C2 h1
      go_wp2_with fail
      refine D2.mono ?_
      rintro e w2 ⟨rfl, h2⟩
      have D3 := CL.out _ _ h2
      clear D2 CL h2
      go_wp2_with fail
      refine D3.mono ?_
      rintro e w3 ⟨rfl, h3⟩
      go_wp2
      go_ret
      exact ⟨rfl, h3⟩
  · have hm2 : may raw = false := by simpa using hm
    have C1 : Hid (Calls Try.prog 8 #[v, .int .i64 dl] w fun e w' => e = .returned (.tuple #[.pointer none, .int .i64 200]) ∧ Has w.heap.size w [] w') := new_no (Has.start w) v raw hl hr dl hm2
    have C2 : Hid (∀ wq, Has w.heap.size w [] wq → Calls Try.prog 9 #[v, .int .i64 dl] wq fun e w' => e = .returned (.tuple #[.pointer none, .int .i64 200]) ∧ Has w.heap.size w [] w') := fun wq hq => rNew_no hq hl (HR.out _ _ hq) hm2
    obtain ⟨ao, cap, rfl, _⟩ := hr
    clear HR hm hm2
    go_enter Try.func3, Try.ntmps3
    go_wp2_with fail
    refine C1.out.mono ?_
    rintro e w1 ⟨rfl, h1⟩
    have D2 := C2.out _ h1
    clear C1 C2 h1
    go_wp2_with fail
    refine D2.mono ?_
    rintro e w2 ⟨rfl, h2⟩
    have D3 := CL.out _ _ h2
    clear D2 CL h2
    go_wp2_with fail
    refine D3.mono ?_
    rintro e w3 ⟨rfl, h3⟩
    go_wp2
    go_ret
    exact ⟨rfl, h3⟩
/-- What a Delay answers, as one. -/
def dlyA (tab : List Int) (k : Int) : Int := if may tab then (if k < 0 then 0 else dly tab k) else 0
def dlyB (tab : List Int) (k : Int) : Int := if may tab then (if k < 0 then 1 else 0) else 200
theorem dly_both {tab : List Int} {k : Int} {e : Ending} (h1 : may tab = false → e = .returned (.tuple #[.int .i64 0, .int .i64 200])) (h2 : may tab = true → k < 0 → e = .returned (.tuple #[.int .i64 0, .int .i64 1])) (h3 : may tab = true → 0 ≤ k → e = .returned (.tuple #[.int .i64 (dly tab k), .int .i64 0])) :
    e = .returned (.tuple #[.int .i64 (dlyA tab k), .int .i64 (dlyB tab k)]) := by
  unfold dlyA dlyB
  cases hm : may tab with
  | false => exact h1 hm
  | true =>
    by_cases hk : k < 0
    · simp only [if_pos hk, if_true]; exact h2 hm hk
    · simp only [if_neg hk, if_true]; exact h3 hm (by omega)
set_option maxHeartbeats 4000000 in
theorem delays_walk (v : Value) (raw : List Int) (hl : raw.length ≤ 140737488355328) (hz : ∀ x ∈ raw, I64 x) (k : Int) (hk : I64 k) (w : World) (hr : IRow w v raw) :
    Calls Try.prog 4 #[v, .int .i64 k] w fun e w' => e = .returned (.bool true) ∧ Below w.heap.size w w' := by
  have C1 : Hid (Calls Try.prog 11 #[v, .int .i64 k] w fun e w' => e = .returned (.tuple #[.int .i64 (dlyA raw k), .int .i64 (dlyB raw k)]) ∧ w' = w) := (delayF_any v raw hl hr k hk.2).mono (fun e w' ⟨a, b, c, d⟩ => ⟨dly_both a b c, d⟩)
  have C2 : Hid (Calls Try.prog 12 #[v, .int .i64 k] w fun e w' => e = .returned (.tuple #[.int .i64 (dlyA raw k), .int .i64 (dlyB raw k)]) ∧ Hid (Has w.heap.size w [] w')) := (refDelay_any (Has.start w) v raw hl hr k hk.2).mono (fun e w' ⟨a, b, c, d⟩ => ⟨dly_both a b c, (Has.start w).below d⟩)
  have C3 : Hid (∀ wq, Has w.heap.size w [] wq → Calls Try.prog 13 #[v] wq fun e w' => ∃ tab ao cap, may tab = true ∧ e = .returned (.slice ao tab.length cap) ∧ Has w.heap.size w (IRowR (.slice ao tab.length cap) tab :: []) w') := fun wq hq => fit_any hq v raw hl hz hr
  have C4 : Hid (∀ wq tab ao cap, may tab = true → Has w.heap.size w (IRowR (.slice ao tab.length cap) tab :: []) wq → Calls Try.prog 11 #[.slice ao tab.length cap, .int .i64 k] wq fun e w' => e = .returned (.tuple #[.int .i64 (dlyA tab k), .int .i64 (dlyB tab k)]) ∧ w' = wq) := fun wq tab ao cap hm hq => (delayF_any _ tab (by have := (may_bounds hm).2.1; omega) (hq.irow List.mem_cons_self) k hk.2).mono (fun e w' ⟨a, b, c, d⟩ => ⟨dly_both a b c, d⟩)
  have C5 : Hid (∀ wq tab ao cap, may tab = true → Has w.heap.size w (IRowR (.slice ao tab.length cap) tab :: []) wq → Calls Try.prog 12 #[.slice ao tab.length cap, .int .i64 k] wq fun e w' => e = .returned (.tuple #[.int .i64 (dlyA tab k), .int .i64 (dlyB tab k)]) ∧ Hid (Has w.heap.size w (IRowR (.slice ao tab.length cap) tab :: []) w')) := fun wq tab ao cap hm hq => (refDelay_any hq _ tab (by have := (may_bounds hm).2.1; omega) (hq.irow List.mem_cons_self) k hk.2).mono (fun e w' ⟨a, b, c, d⟩ => ⟨dly_both a b c, hq.below d⟩)
  have CL : Hid (∀ wq rs, Has w.heap.size w rs wq → Calls Try.prog 10 #[] wq fun e w' => e = .returned (.bool true) ∧ Below w.heap.size w w') := fun wq rs hq => (live_any hq).mono (fun e w' ⟨he, hh⟩ => ⟨he, hh.bel⟩)
  obtain ⟨ao, cap, rfl, _⟩ := hr
  clear hz
  generalize dlyA raw k = n1 at *
  generalize dlyB raw k = n2 at *
  go_enter Try.func4, Try.ntmps4
  go_wp2_with fail
  refine C1.out.mono ?_
  rintro e w1 ⟨rfl, hw⟩
  rw [hw]
  clear hw w1 C1
  go_wp2_with fail
  refine C2.out.mono ?_
  rintro e w2 ⟨rfl, h2⟩
  have D3 := C3.out _ h2.out
  clear C2 C3 h2
  go_wp2_with fail
  refine D3.mono ?_
  rintro e w3 ⟨tab, at_, ct, hm, rfl, h3⟩
  have D4 := C4.out _ _ _ _ hm h3
  have D5 := C5.out _ _ _ _ hm h3
  clear D3 C4 C5 h3 hm
  generalize dlyA tab k = n3 at *
  generalize dlyB tab k = n4 at *
  go_wp2_with fail
  refine D4.mono ?_
  rintro e w4 ⟨rfl, hw⟩
  rw [hw]
  clear hw w4 D4
  go_wp2_with fail
  refine D5.mono ?_
  rintro e w5 ⟨rfl, h5⟩
  have D6 := CL.out _ _ h5.out
  clear D5 CL h5
  go_wp2_with fail
  refine D6.mono ?_
  rintro e w6 ⟨rfl, h6⟩
  go_wp2
  go_ret
  exact ⟨rfl, h6⟩
end Go.Proofs.Yteadnjagandkfaa
