/- Take where it refuses. -/
import Derived.Test.YthdloddcljbjhaaDoorTakeW
set_option linter.unusedVariables false
set_option maxRecDepth 100000
namespace Go.Proofs.YthdloddcljbjhaaDoor
open Go.RowKit CheckMath
open Go.Maps (Keyed)

theorem take_low {B : Nat} {w wr : World} {rs : List Res} {tb n : Nat} {T : Hd} (h : Has B w (TabR tb n T :: rs) wr) (i : Int) (hi : i < 1) (v : Value) (l : List ByteArray) (hl : KRow wr v l) :
    Calls Tryd.prog 10 #[.pointer (some ⟨tb, 0, none⟩), .int .i64 i, v] wr fun e w' => e = .returned (.tuple #[.string ⟨#[]⟩, .bool false]) ∧ Has B w (TabR tb n T :: rs) w' := by
  have H0 : Hid (Has B w (TabR tb n T :: rs) wr) := h
  obtain ⟨ao, cap, rfl, hcap, _⟩ := hl
  clear h
  go_enter Tryd.func10, Tryd.ntmps10
  go_wp2_with fail
  go_ret2
  exact ⟨rfl, H0.out⟩
set_option maxHeartbeats 2000000 in
theorem take_bad {B : Nat} {w wr : World} {rs : List Res} {tb n : Nat} {T : Hd} (h : Has B w (TabR tb n T :: rs) wr) (i : Int) (hi : 1 ≤ i) (v : Value) (l : List ByteArray) (hl : KRow wr v l) (hall : l.all isN = false) :
    Calls Tryd.prog 10 #[.pointer (some ⟨tb, 0, none⟩), .int .i64 i, v] wr fun e w' => e = .returned (.tuple #[.string ⟨#[]⟩, .bool false]) ∧ Has B w (TabR tb n T :: rs) w' := by
  have C1 : Hid (Calls Tryd.prog 26 #[v] wr fun e w' => e = .returned (.bool false) ∧ Below wr.heap.size wr w') := by
    have x := allNames_any v l wr hl
    rw [hall] at x
    exact x
  have H0 : Hid (Has B w (TabR tb n T :: rs) wr) := h
  have hi3 : ¬ i < 1 := by omega
  obtain ⟨ao, cap, rfl, hcap, _⟩ := hl
  clear h hall
  go_enter Tryd.func10, Tryd.ntmps10
  go_wp2_with fail
  refine C1.out.mono ?_
  rintro e w1 ⟨rfl, hb1⟩
  have H1 : Hid (Has B w (TabR tb n T :: rs) w1) := H0.out.below hb1
  clear C1 hb1 H0
  go_wp2_with fail
  go_ret2
  exact ⟨rfl, H1.out⟩
set_option maxHeartbeats 4000000 in
theorem take_other {B : Nat} {w wr : World} {rs : List Res} {tb n : Nat} {T : Hd} (h : Has B w (TabR tb n T :: rs) wr) (i : Int) (hi : 1 ≤ i) (v : Value) (l : List ByteArray) (hl : KRow wr v l) (hs : ∀ s, s ∈ l → s.size ≤ 1048576) (hall : l.all isN = true) (x : ByteArray) (hf : firstO T i l = some x)
    (hkeep : ∀ wq k T2, Has B w (TabR tb k T2 :: rs) wq → KRow wq v l) :
    Calls Tryd.prog 10 #[.pointer (some ⟨tb, 0, none⟩), .int .i64 i, v] wr fun e w' => e = .returned (.tuple #[.string x, .bool false]) ∧ Has B w (TabR tb n T :: rs) w' := by
  have C1 : Hid (Calls Tryd.prog 26 #[v] wr fun e w' => e = .returned (.bool true) ∧ Below wr.heap.size wr w') := by
    have x := allNames_any v l wr hl
    rw [hall] at x
    exact x
  have C2 : Hid (∀ wq, Has B w (TabR tb n T :: rs) wq → Calls Tryd.prog 27 #[.pointer (some ⟨tb, 0, none⟩), .int .i64 i, v] wq fun e w' => e = .returned (.tuple #[.string x, .bool true]) ∧ w' = wq) := fun wq hq => (firstOf_any hq List.mem_cons_self i v l (hkeep wq n T hq) hs).mono (fun e w' ⟨he, _, hw⟩ => ⟨he x hf, hw⟩)
  have H0 : Hid (Has B w (TabR tb n T :: rs) wr) := h
  obtain ⟨ao, cap, rfl, hcap, _⟩ := hl
  have hi3 : ¬ i < 1 := by omega
  clear h hs hall hf hkeep
  go_enter Tryd.func10, Tryd.ntmps10
  go_wp2_with fail
  refine C1.out.mono ?_
  rintro e w1 ⟨rfl, hb1⟩
  have H1 : Hid (Has B w (TabR tb n T :: rs) w1) := H0.out.below hb1
  have D2 := C2.out w1 H1.out
  clear C1 C2 hb1 H0
  go_wp2_with fail
  refine D2.mono ?_
  rintro e w2 ⟨rfl, hw⟩
  rw [hw]
  clear hw w2 D2
  go_wp2_with fail
  go_ret2
  exact ⟨rfl, H1.out⟩
end Go.Proofs.YthdloddcljbjhaaDoor
