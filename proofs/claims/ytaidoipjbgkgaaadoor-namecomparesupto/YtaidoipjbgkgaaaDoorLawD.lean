/- The walks of the laws NameOwners and NameCompares. -/
import Derived.Test.YtaidoipjbgkgaaaDoorLive
import Derived.Test.YtaidoipjbgkgaaaDoorRefOwn
set_option linter.unusedVariables false
namespace Go.Proofs.YtaidoipjbgkgaaaDoor
open Go.RowKit

theorem nameOwners_walk (s : ByteArray) (hs : s.size ≤ 1048576) (w : World) (hT : Tabs w) :
    Calls Tryd.prog 6 #[.string s] w fun e w' => e = .returned (.bool true) ∧ Below w.heap.size w w' := by
  have c1 := fun w => owner_any s w
  have c2 := fun w => refOwner_any s hs w
  generalize NameMath.own 0 (NameMath.runes s.data.toList) = n at *
  have C1 : Hid (∀ w, Calls Tryd.prog 16 #[.string s] w fun e w' => e = .returned (.int .i64 (n : Int)) ∧ Below w.heap.size w w') := c1
  have C2 : Hid (∀ w, Calls Tryd.prog 17 #[.string s] w fun e w' => e = .returned (.int .i64 (n : Int)) ∧ Below w.heap.size w w') := c2
  clear c1 c2
  go_enter Tryd.func6, Tryd.ntmps6
  go_wp2_with fail
  refine (C1.out _).mono ?_
  rintro e w1 ⟨rfl, hb1⟩
  go_wp2_with fail
  refine (C2.out _).mono ?_
  rintro e w2 ⟨rfl, hb2⟩
  have hb : Below w.heap.size w w2 := hb1.trans (hb2.mono hb1.size)
  have hT3 := tabs_below hT hb
  go_wp2_with fail
  refine (live_any _ hT3).mono ?_
  rintro e w4 ⟨rfl, hb4⟩
  go_wp2_with fail
  go_ret
  exact ⟨rfl, hb.trans (hb4.mono hb.size)⟩

theorem nameCompares_walk (a b : ByteArray) (ha : a.size ≤ 1048576) (hb : b.size ≤ 1048576) (w : World) (hT : Tabs w) :
    Calls Tryd.prog 5 #[.string a, .string b] w fun e w' => e = .returned (.bool true) ∧ Below w.heap.size w w' := by
  have c1 := fun w hT => compare_any a b (by omega) w hT
  have c2 := fun w hT => compare_any b a (by omega) w hT
  have c3 := fun w => refCompare_any a b ha hb w
  have c4 := fun w => refCompare_any b a hb ha w
  generalize NameMath.cmp (NameMath.runes a.data.toList) (NameMath.runes b.data.toList) = x at *
  generalize NameMath.cmp (NameMath.runes b.data.toList) (NameMath.runes a.data.toList) = y at *
  have C1 : Hid (∀ w, Tabs w → Calls Tryd.prog 14 #[.string a, .string b] w fun e w' => e = .returned (.int .i64 x) ∧ Below w.heap.size w w') := c1
  have C2 : Hid (∀ w, Tabs w → Calls Tryd.prog 14 #[.string b, .string a] w fun e w' => e = .returned (.int .i64 y) ∧ Below w.heap.size w w') := c2
  have C3 : Hid (∀ w, Calls Tryd.prog 15 #[.string a, .string b] w fun e w' => e = .returned (.int .i64 x) ∧ Below w.heap.size w w') := c3
  have C4 : Hid (∀ w, Calls Tryd.prog 15 #[.string b, .string a] w fun e w' => e = .returned (.int .i64 y) ∧ Below w.heap.size w w') := c4
  clear c1 c2 c3 c4
  go_enter Tryd.func5, Tryd.ntmps5
  go_wp2_with fail
  refine (C1.out _ hT).mono ?_
  rintro e w1 ⟨rfl, hb1⟩
  have hT1 := tabs_below hT hb1
  go_wp2_with fail
  refine (C2.out _ hT1).mono ?_
  rintro e w2 ⟨rfl, hb2⟩
  go_wp2_with fail
  refine (C3.out _).mono ?_
  rintro e w3 ⟨rfl, hb3⟩
  go_wp2_with fail
  refine (C4.out _).mono ?_
  rintro e w4 ⟨rfl, hb4⟩
  have hbb : Below w.heap.size w w4 := hb1.trans ((hb2.mono hb1.size).trans ((hb3.mono (Nat.le_trans hb1.size hb2.size)).trans (hb4.mono (Nat.le_trans hb1.size (Nat.le_trans hb2.size hb3.size)))))
  have hT4 := tabs_below hT hbb
  go_wp2_with fail
  refine (live_any _ hT4).mono ?_
  rintro e w5 ⟨rfl, hb5⟩
  go_wp2_with fail
  go_ret
  exact ⟨rfl, hbb.trans (hb5.mono hbb.size)⟩
end Go.Proofs.YtaidoipjbgkgaaaDoor
