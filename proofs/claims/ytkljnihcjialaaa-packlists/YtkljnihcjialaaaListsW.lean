/- The walk of the law PackLists. -/
import Derived.Test.YtkljnihcjialaaaRefListW
set_option linter.unusedVariables false
namespace Go.Proofs.Ytkljnihcjialaaa
open Go.RowKit

theorem strs_oneCell (ws : List (List UInt8)) : ∀ u ∈ ws.map strV, u.oneCell' = true := by
  intro u hu
  obtain ⟨l, _, rfl⟩ := List.mem_map.1 hu
  rfl

set_option maxHeartbeats 1000000 in
theorem copied_any (v : Value) (xs : List (List UInt8)) (hx : xs.length * 16 ≤ 140737488351232) (w : World) (hS : SRow w v xs) :
    Calls Try.prog 14 #[v] w fun e w' => ∃ v', e = .returned v' ∧ w'.ownsRow w.heap.size 9 1 v' xs.length (xs.map strV) ∧ Below w.heap.size w w' := by
  obtain ⟨i0, hi, hz0, hz1, hz2⟩ := info_parts infoS
  obtain ⟨ao, cap, rfl, hcap, hrow⟩ := hS
  rcases Nat.eq_zero_or_pos xs.length with h0 | h0
  · obtain rfl : xs = [] := List.eq_nil_of_length_eq_zero h0
    clear hrow h0 hx
    have hown : w.ownsRow w.heap.size 9 1 (.slice none 0 0) 0 [] := World.ownsRow_nil _ _ _ _
    cases ao with
    | none =>
      · have hc0 := hcap.2 rfl
        subst hc0
        go_enter Try.func14, Try.ntmps14
        go_wp2_with (at_builtin; refine wpList_append_own_none rfl _ _ 29 rfl w.heap.size 9 i0 1 Try.underlying29 hi _ _ _ rfl hown rfl ?_)
        go_wp2
        go_ret
        exact ⟨_, rfl, World.ownsRow_nil _ _ _ _, Below.refl _ _⟩
    | some ad =>
      go_enter Try.func14, Try.ntmps14
      go_wp2_with (at_builtin; refine wpList_append_own _ rfl _ _ 29 rfl w.heap.size 9 i0 (.string ⟨#[]⟩) 1 16 Try.underlying29 hi hz0 hz1 hz2 rfl (by decide) _ _ _ rfl hown ad 0 cap [] rfl rfl (fun j u hj => by simp at hj) (fun u hu => by cases hu) (by unfold maxLen; omega) (by omega) (Nat.le_refl _) ?_)
      intro v3 w3 hown3 hg3 hnn
      have hb : Below w.heap.size w w3 := (Below.refl _ w).grown hg3 (Nat.le_refl _) (fun k h => (hown.lt k h).1)
      have HO : Hid (w3.ownsRow w.heap.size 9 1 v3 ([] : List (List UInt8)).length (([] : List (List UInt8)).map strV)) := hown3
      clear hown3 hg3 hnn hown
      go_wp2
      go_ret
      exact ⟨_, rfl, HO.out, hb⟩
  · obtain ⟨g, o, rfl, _⟩ := hrow 0 h0
    have hnews : Hid (∀ (j : Nat) (u : Value), (xs.map strV)[j]? = some u → w.cell? ((⟨g, o, none⟩ : Addr).add j) = some u) := by
      intro j u hj
      have hjl : j < xs.length := by
        rcases Nat.lt_or_ge j xs.length with h | h
        · exact h
        · simp [List.getElem?_eq_none h] at hj
      obtain ⟨g', o', h1, h4⟩ := hrow j hjl
      obtain ⟨rfl, rfl⟩ : g = g' ∧ o = o' := by simpa using h1
      have : (⟨g, o, none⟩ : Addr).add j = ⟨g, o + j, none⟩ := by
        unfold Addr.add
        split <;> simp_all
      rw [this, h4]
      simpa [hjl] using hj
    have hown : w.ownsRow w.heap.size 9 1 (.slice none 0 0) 0 [] := World.ownsRow_nil _ _ _ _
    clear hrow
    go_enter Try.func14, Try.ntmps14
    go_wp2_with (at_builtin; refine wpList_append_own _ rfl _ _ 29 rfl w.heap.size 9 i0 (.string ⟨#[]⟩) 1 16 Try.underlying29 hi hz0 hz1 hz2 rfl (by decide) _ _ _ rfl hown ⟨g, o, none⟩ xs.length cap (xs.map strV) rfl (by simp) hnews.out (strs_oneCell xs) (by unfold maxLen; omega) (by omega) (Nat.le_refl _) ?_)
    intro v3 w3 hown3 hg3 hnn
    have hb : Below w.heap.size w w3 := (Below.refl _ w).grown hg3 (Nat.le_refl _) (fun k h => (hown.lt k h).1)
    have HO : Hid (w3.ownsRow w.heap.size 9 1 v3 xs.length (xs.map strV)) := own_cast (by omega) (by simp) hown3
    clear hown3 hg3 hnn hown
    go_wp2
    go_ret
    exact ⟨_, rfl, HO.out, hb⟩

set_option maxHeartbeats 2000000 in
theorem packLists_walk (v : Value) (xs : List (List UInt8)) (hx : xs.length * 16 ≤ 140737488351232) (hxs : ∀ s ∈ xs, s.length ≤ 140737488351232) (w : World) (hS : SRow w v xs) :
    Calls Try.prog 5 #[v] w fun e w' => e = .returned (.bool true) ∧ Below w.heap.size w w' := by
  obtain ⟨t, k, hv⟩ : ∃ (t : ByteArray) (k : Int), lsV xs = .tuple #[.string t, .int .i64 k] := by
    unfold lsV strV
    split <;> exact ⟨_, _, rfl⟩
  have c0 := fun w h => copied_any v xs hx w h
  have c1 := fun v w h => list_any v xs (by omega) hxs w h
  have c2 := fun w h => refList_any v xs (by omega) hxs w h
  rw [hv] at c1 c2
  have C0 : Hid (∀ w, SRow w v xs → Calls Try.prog 14 #[v] w fun e w' => ∃ v', e = .returned v' ∧ w'.ownsRow w.heap.size 9 1 v' xs.length (xs.map strV) ∧ Below w.heap.size w w') := c0
  have C1 : Hid (∀ v w, SRow w v xs → Calls Try.prog 15 #[v] w fun e w' => e = .returned (.tuple #[.string t, .int .i64 k]) ∧ Below w.heap.size w w') := c1
  have C2 : Hid (∀ w, SRow w v xs → Calls Try.prog 16 #[v] w fun e w' => e = .returned (.tuple #[.string t, .int .i64 k]) ∧ Below w.heap.size w w') := c2
  have HS : Hid (SRow w v xs) := hS
  have hxl : xs.length ≤ 140737488355328 := by omega
  clear c0 c1 c2 hv hS hxs
  go_enter Try.func5, Try.ntmps5
  go_wp2_with fail
  refine (C0.out _ HS.out).mono ?_
  rintro e w1 ⟨v1, rfl, hown1, hb1⟩
  have HS1 : Hid (SRow w1 v1 xs) := srow_own hown1
  have HT1 : Hid (SRow w1 v xs) := by
    have h := HS.out
    exact srow_below h hb1
  clear hown1 HS
  go_wp2_with fail
  refine (C1.out _ _ HS1.out).mono ?_
  rintro e w2 ⟨rfl, hb2⟩
  have HS2 : Hid (SRow w2 v1 xs) := srow_below HS1.out hb2
  have HT2 : Hid (SRow w2 v xs) := srow_below HT1.out hb2
  have hb02 : Below w.heap.size w w2 := hb1.trans (hb2.mono hb1.size)
  clear hb1 hb2 HS1 HT1
  go_wp2_with fail
  refine (C2.out _ HT2.out).mono ?_
  rintro e w3 ⟨rfl, hb3⟩
  have HS3 : Hid (SRow w3 v1 xs) := srow_below HS2.out hb3
  have HT3 : Hid (SRow w3 v xs) := srow_below HT2.out hb3
  have hb03 : Below w.heap.size w w3 := hb02.trans (hb3.mono hb02.size)
  clear hb02 hb3 HS2 HT2
  go_wp2_with fail
  refine (same_true xs hxl v1 v w3 HS3.out HT3.out).mono ?_
  rintro e w4 ⟨rfl, q, hw4⟩
  have hb4 := below_drew_of hb03 hw4
  clear hw4 hb03
  go_wp2_with fail
  refine (live_any _).mono ?_
  rintro e w5 ⟨rfl, hb5⟩
  go_wp2
  go_ret
  exact ⟨rfl, hb4.trans (hb5.mono hb4.size)⟩
end Go.Proofs.Ytkljnihcjialaaa
