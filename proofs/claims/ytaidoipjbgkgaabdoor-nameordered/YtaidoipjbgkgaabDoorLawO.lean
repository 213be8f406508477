/- The walk of the law NameOrdered. -/
import Derived.Test.YtaidoipjbgkgaabDoorSrow
import Derived.Test.YtaidoipjbgkgaabDoorMathE
set_option linter.unusedVariables false
namespace Go.Proofs.YtaidoipjbgkgaabDoor
open Go.RowKit

/-- What the order of three texts keeps (P1.6). -/
theorem ordered (a b c : List Nat) (x y z : Int) (hx : NameMath.cmp a b = x) (hy : NameMath.cmp b c = y) (hz : NameMath.cmp a c = z) :
    (x = -1 ∨ x = 0 ∨ x = 1) ∧ (y = -1 ∨ y = 0 ∨ y = 1) ∧ NameMath.cmp b a = -x ∧ (x = 0 → z = y) ∧ (x = y → z = x) := by
  refine ⟨hx ▸ NameMath.cmp_range a b, hy ▸ NameMath.cmp_range b c, by rw [NameMath.cmp_neg, hx], ?_, ?_⟩
  · intro h
    have : a = b := (NameMath.cmp_zero a b).1 (by rw [hx, h])
    rw [← hz, ← hy, this]
  · intro h
    rcases hx ▸ NameMath.cmp_range a b with h1 | h1 | h1
    · rw [h1]; rw [← hz]
      exact NameMath.cmp_trans a b c (by rw [hx, h1]) (by rw [hy, ← h, h1])
    · have e1 : a = b := (NameMath.cmp_zero a b).1 (by rw [hx, h1])
      have e2 : b = c := (NameMath.cmp_zero b c).1 (by rw [hy, ← h, h1])
      rw [← hz, h1, e1, e2]
      exact (NameMath.cmp_zero c c).2 rfl
    · have n1 : NameMath.cmp b a = -1 := by rw [NameMath.cmp_neg, hx, h1]
      have n2 : NameMath.cmp c b = -1 := by rw [NameMath.cmp_neg, hy, ← h, h1]
      have n3 := NameMath.cmp_trans c b a n2 n1
      rw [← hz, NameMath.cmp_neg, n3, h1]
      rfl

set_option maxHeartbeats 4000000 in
theorem nameOrdered_walk (a b c : ByteArray) (ha : a.size ≤ 140737488351232) (hb : b.size ≤ 140737488351232) (hc : c.size ≤ 140737488351232) (w : World) (hT : Tabs w) :
    Calls Tryd.prog 3 #[.string a, .string b, .string c] w fun e w' => e = .returned (.bool true) ∧ Below w.heap.size w w' := by
  have c1 := fun w hT => compare_any a b (by omega) w hT
  have c2 := fun w hT => compare_any b c (by omega) w hT
  have c3 := fun w hT => compare_any a c (by omega) w hT
  have c4 := fun w hT => compare_any b a (by omega) w hT
  have c5 := fun w => is_any a w
  have c6 := fun w => is_any b w
  have hnm := NameMath.cmp_names a.data.toList b.data.toList
  obtain ⟨x, hx⟩ : ∃ x, NameMath.cmp (NameMath.runes a.data.toList) (NameMath.runes b.data.toList) = x := ⟨_, rfl⟩
  obtain ⟨y, hy⟩ : ∃ y, NameMath.cmp (NameMath.runes b.data.toList) (NameMath.runes c.data.toList) = y := ⟨_, rfl⟩
  obtain ⟨z, hz⟩ : ∃ z, NameMath.cmp (NameMath.runes a.data.toList) (NameMath.runes c.data.toList) = z := ⟨_, rfl⟩
  obtain ⟨px, py, hbk, hz0, hzx⟩ := ordered _ _ _ x y z hx hy hz
  rw [hx] at c1 hnm
  rw [hy] at c2
  rw [hz] at c3
  rw [hbk] at c4
  clear hx hy hz hbk
  generalize NameMath.isGo (NameMath.runes a.data.toList) 0 = p at *
  generalize NameMath.isGo (NameMath.runes b.data.toList) 0 = q at *
  have HNM : Hid (p = true → (x = 0 ↔ a.data.toList = b.data.toList)) := hnm
  have C1 : Hid (∀ w, Tabs w → Calls Tryd.prog 9 #[.string a, .string b] w fun e w' => e = .returned (.int .i64 x) ∧ Below w.heap.size w w') := c1
  have C2 : Hid (∀ w, Tabs w → Calls Tryd.prog 9 #[.string b, .string c] w fun e w' => e = .returned (.int .i64 y) ∧ Below w.heap.size w w') := c2
  have C3 : Hid (∀ w, Tabs w → Calls Tryd.prog 9 #[.string a, .string c] w fun e w' => e = .returned (.int .i64 z) ∧ Below w.heap.size w w') := c3
  have C4 : Hid (∀ w, Tabs w → Calls Tryd.prog 9 #[.string b, .string a] w fun e w' => e = .returned (.int .i64 (-x)) ∧ Below w.heap.size w w') := c4
  have C5 : Hid (∀ w, Calls Tryd.prog 10 #[.string a] w fun e w' => e = .returned (.bool p) ∧ Below w.heap.size w w') := c5
  have C6 : Hid (∀ w, Calls Tryd.prog 10 #[.string b] w fun e w' => e = .returned (.bool q) ∧ Below w.heap.size w w') := c6
  clear c1 c2 c3 c4 c5 c6 hnm
  have HZ : Hid ((x = 0 → z = y) ∧ (x = y → z = x)) := ⟨hz0, hzx⟩
  clear hz0 hzx
  go_enter Tryd.func3, Tryd.ntmps3
  go_wp2_with fail
  refine (C1.out _ hT).mono ?_
  rintro e w1 ⟨rfl, hb1⟩
  have hT1 := tabs_below hT hb1
  go_wp2_with fail
  refine (C2.out _ hT1).mono ?_
  rintro e w2 ⟨rfl, hb2⟩
  have hT2 := tabs_below hT1 hb2
  go_wp2_with fail
  refine (C3.out _ hT2).mono ?_
  rintro e w3 ⟨rfl, hb3⟩
  have hT3 := tabs_below hT2 hb3
  go_wp2_with fail
  refine (C4.out _ hT3).mono ?_
  rintro e w4 ⟨rfl, hb4⟩
  have hb14 : Below w.heap.size w w4 := hb1.trans ((hb2.mono hb1.size).trans ((hb3.mono (Nat.le_trans hb1.size hb2.size)).trans (hb4.mono (Nat.le_trans hb1.size (Nat.le_trans hb2.size hb3.size)))))
  clear hb1 hb2 hb3 hb4 hT1 hT2 hT3 C1 C2 C3 C4
  have HAB : Hid (p = true → x = 0 → a.toList = b.toList) := fun hp h0 => by
    have := (HNM.out hp).1 h0
    rw [toList_data, toList_data, this]
  have HNE : Hid (p = true → x ≠ 0 → (a.toList == b.toList) = false) := fun hp h0 => by
    rw [beq_eq_false_iff_ne]
    intro e
    rw [toList_data, toList_data] at e
    exact h0 ((HNM.out hp).2 e)
  clear HNM
  have hcase : (x = 0 ∧ z = y) ∨ ((x = -1 ∨ x = 1) ∧ y = x ∧ z = x) ∨ (x = -1 ∧ (y = 0 ∨ y = 1)) ∨ (x = 1 ∧ (y = 0 ∨ y = -1)) := by
    have := HZ.out; omega
  clear HZ px py
  rcases hcase with ⟨rfl, rfl⟩ | ⟨rfl | rfl, rfl, rfl⟩ | ⟨rfl, rfl | rfl⟩ | ⟨rfl, rfl | rfl⟩
  case' inl =>
    have hsp : z = 0 ∨ z ≠ 0 := by omega
    rcases hsp with rfl | hz0
    case' inr =>
      have z1 : ((0 : Int) == z) = false := beq_eq_false_iff_ne.2 (by omega)
  all_goals
    go_wp2_with fail
    refine (C5.out _).mono ?_
    rintro e w5 ⟨rfl, hb5⟩
    go_wp2_with fail
    refine (C6.out _).mono ?_
    rintro e w6 ⟨rfl, hb6⟩
    have hb16 : Below w.heap.size w w6 := hb14.trans ((hb5.mono hb14.size).trans (hb6.mono (Nat.le_trans hb14.size hb5.size)))
    have hT6 := tabs_below hT hb16
    clear hb14 hb5 hb6 C5 C6
    cases p
    case' true =>
      cases q
      case' true =>
        first
        | (have hab : (a.toList == b.toList) = true := beq_iff_eq.2 (HAB.out rfl rfl); clear HAB HNE)
        | (have hab : (a.toList == b.toList) = true := beq_iff_eq.2 (HAB.out rfl trivial); clear HAB HNE)
        | (have hne := HNE.out rfl (by decide); clear HAB HNE)
    all_goals
      go_wp2_with fail
      refine (live_any _ hT6).mono ?_
      rintro e w7 ⟨rfl, hb7⟩
      go_wp2_with fail
      go_ret
      exact ⟨rfl, hb16.trans (hb7.mono hb16.size)⟩
end Go.Proofs.YtaidoipjbgkgaabDoor
