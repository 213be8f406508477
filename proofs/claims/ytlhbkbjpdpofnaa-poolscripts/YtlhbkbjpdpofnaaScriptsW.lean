/- The walk of the law PoolScripts. -/
import Derived.Test.YtlhbkbjpdpofnaaDoesW
set_option linter.unusedVariables false
set_option maxRecDepth 100000
namespace Go.Proofs.Ytlhbkbjpdpofnaa
open Go.RowKit

set_option maxHeartbeats 2000000 in
theorem poolScripts_walk (room : Int) (hrm : -9223372036854775808 ≤ room ∧ room ≤ 9223372036854775807) (v : Value) (os : List Op) (hx : os.length * 32 ≤ 140737488351232) (w : World) (hO : ORow w v os) :
    Calls Try.prog 4 #[.int .i64 room, v] w fun e w' => e = .returned (.bool true) ∧ Below w.heap.size w w' := by
  have CP : Hid (Calls Try.prog 12 #[.int .i64 room, .int .i64 200] w fun e w' => e = .returned (.int .i64 (pick room 200 : Int)) ∧ w' = w) := pick_any room 200 (by decide) (by decide) hrm w
  have hpl := pick_lt room 200 (by decide)
  generalize pick room 200 = R at *
  have C1 : Hid (Calls Try.prog 7 #[.int .i64 (1 + (R : Int))] w fun e w' => ∃ b, e = .returned (.tuple #[.pointer (some ⟨b, 0, none⟩), .int .i64 0]) ∧ Hid (Has w.heap.size w [PoolR b (1 + (R : Int)) []] w')) := (Has.start w).new (by omega) (by omega)
  have C2 : Hid (∀ b w1, Hid (Has w.heap.size w [PoolR b (1 + (R : Int)) []] w1) → Calls Try.prog 7 #[.int .i64 (1 + (R : Int))] w1 fun e w' => ∃ c, e = .returned (.tuple #[.pointer (some ⟨c, 0, none⟩), .int .i64 0]) ∧ Hid (Has w.heap.size w [PoolR c (1 + (R : Int)) [], PoolR b (1 + (R : Int)) []] w')) := fun b w1 h => h.out.new (by omega) (by omega)
  have C3 : Hid (∀ b c w1, Hid (Has w.heap.size w [PoolR c (1 + (R : Int)) [], PoolR b (1 + (R : Int)) []] w1) → Calls Try.prog 8 #[.int .i64 (1 + (R : Int))] w1 fun e w' => ∃ q, e = .returned (.tuple #[.pointer (some ⟨q, 0, none⟩), .int .i64 0]) ∧ Hid (Has w.heap.size w [PoolR b (1 + (R : Int)) [], PoolR q (1 + (R : Int)) [], PoolR c (1 + (R : Int)) []] w')) := fun b c w1 h => (h.out.refNew (by omega) (by omega)).mono fun e w' ⟨q, k1, k2⟩ => ⟨q, k1, k2.perm (List.perm_middle (l₁ := [PoolR q (1 + (R : Int)) [], PoolR c (1 + (R : Int)) []]) (l₂ := []))⟩
  have CL : Hid (∀ rs w1, Hid (Has w.heap.size w rs w1) → Calls Try.prog 11 #[] w1 fun e w' => e = .returned (.bool true) ∧ Hid (Has w.heap.size w rs w')) := fun b w1 h => (live_any w1).mono fun e w' ⟨h1, h2⟩ => ⟨h1, h.out.below h2⟩
  have HO : Hid (ORow w v os) := hO
  obtain ⟨ao, cap, rfl, _⟩ := hO
  go_enter Try.func4, Try.ntmps4
  go_wp2_with fail
  refine CP.out.mono ?_
  rintro e w1 ⟨rfl, hw⟩
  rw [hw]; clear hw w1 CP
  go_wp2_with fail
  refine C1.out.mono ?_
  rintro e w1 ⟨b, rfl, d1⟩
  clear C1
  go_wp2_with fail
  refine (C2.out _ _ d1).mono ?_
  rintro e w2 ⟨c, rfl, d2⟩
  clear C2 d1
  go_wp2_with fail
  refine (C3.out _ _ _ d2).mono ?_
  rintro e w3 ⟨q, rfl, d3⟩
  clear C3 d2
  go_wp2_with fail
  refine (CL.out _ _ d3).mono ?_
  rintro e w4 ⟨rfl, HS0⟩
  clear CL d3
  go_wp2_with fail
  go_loopw [11] (fun i wr => ∃ (k : Nat) (l : List Txt), k ≤ os.length ∧ i = .int .i64 (k : Int) ∧ (l.length : Int) ≤ 1 + (R : Int) ∧ Hid (Has w.heap.size w [PoolR b (1 + (R : Int)) l, PoolR q (1 + (R : Int)) l, PoolR c (1 + (R : Int)) []] wr)) (fun i _ => os.length - (intOf i).toNat)
  case atStart => exact ⟨0, [], Nat.zero_le _, rfl, by simp; omega, HS0⟩
  case round =>
    obtain ⟨k, l, hk, rfl, hl, HS⟩ := hrel
    clear HS0
    by_cases hlt : k < os.length
    · obtain ⟨_, _, he, _, _, hrow⟩ := HO.out
      cases he
      obtain ⟨g, o, rfl, hgl, c0, c1, c2⟩ := hrow k hlt
      have hcell : ∀ x, wr.cell? ⟨g, x, none⟩ = w.cell? ⟨g, x, none⟩ := fun x => HS.out.bel.cell (p := ⟨g, x, none⟩) hgl
      have e0 := (hcell _).trans c0
      have e1 := (hcell _).trans c1
      have e2 := (hcell _).trans c2
      have C : Hid (Calls Try.prog 13 #[.pointer (some ⟨b, 0, none⟩), .pointer (some ⟨q, 0, none⟩), .agg #[.int .i64 os[k].Do, .int .i64 os[k].N, .string os[k].S]] wr fun e w' => e = .returned (.bool true) ∧ ∃ l' : List Txt, (l'.length : Int) ≤ 1 + (R : Int) ∧ Hid (Has w.heap.size w [PoolR b (1 + (R : Int)) l', PoolR q (1 + (R : Int)) l', PoolR c (1 + (R : Int)) []] w')) := does_any HS.out (by omega) hl _ _ _
      generalize os[k].Do = D at *
      generalize os[k].N = N at *
      generalize os[k].S = s at *
      have i1 : (k : Int) < (os.length : Int) := by omega
      clear hcell c0 c1 c2 hrow
      go_wp2_with fail
      refine C.out.mono ?_
      rintro e w2 ⟨rfl, L, hL, HS2⟩
      clear C HS e0 e1 e2 hl
      have hL9 : L.length ≤ 200 := by omega
      have CA : Hid (Calls Try.prog 10 #[.pointer (some ⟨b, 0, none⟩)] w2 fun e w' => ∃ la lc, e = .returned (.slice la L.length lc) ∧ Hid (Has w.heap.size w [PoolR q (1 + (R : Int)) L, RowR (.slice la L.length lc) L, PoolR b (1 + (R : Int)) L, PoolR c (1 + (R : Int)) []] w')) := (HS2.out.all hL9).mono fun e w' ⟨v, k1, k2⟩ => by
        obtain ⟨la, lc, rfl, _⟩ := own_form (k2.row (v := v) (l := L) (by simp))
        exact ⟨la, lc, k1, k2.perm (List.perm_middle (l₁ := [RowR (.slice la L.length lc) L, PoolR b (1 + (R : Int)) L]) (l₂ := [PoolR c (1 + (R : Int)) []]))⟩
      have CR : Hid (∀ la lc w3, Hid (Has w.heap.size w [PoolR q (1 + (R : Int)) L, RowR (.slice la L.length lc) L, PoolR b (1 + (R : Int)) L, PoolR c (1 + (R : Int)) []] w3) → Calls Try.prog 15 #[.pointer (some ⟨q, 0, none⟩)] w3 fun e w' => ∃ ra rc, e = .returned (.slice ra L.length rc) ∧ Hid (Has w.heap.size w [RowR (.slice ra L.length rc) L, PoolR q (1 + (R : Int)) L, RowR (.slice la L.length lc) L, PoolR b (1 + (R : Int)) L, PoolR c (1 + (R : Int)) []] w')) := fun la lc w3 h => (h.out.refAll hL9).mono fun e w' ⟨v, k1, k2⟩ => by
        obtain ⟨ra, rc, rfl, _⟩ := own_form (k2.row (v := v) (l := L) (by simp))
        exact ⟨ra, rc, k1, k2⟩
      have CS : Hid (∀ ra rc la lc w3, Hid (Has w.heap.size w [RowR (.slice ra L.length rc) L, PoolR q (1 + (R : Int)) L, RowR (.slice la L.length lc) L, PoolR b (1 + (R : Int)) L, PoolR c (1 + (R : Int)) []] w3) → Calls Try.prog 14 #[.slice la L.length lc, .slice ra L.length rc] w3 fun e w' => e = .returned (.bool true) ∧ Hid (Has w.heap.size w [PoolR b (1 + (R : Int)) L, PoolR q (1 + (R : Int)) L, PoolR c (1 + (R : Int)) []] w')) := fun ra rc la lc w3 h =>
        (same_true L (by omega) _ _ w3 (srow_own (h.out.row (by simp))) (srow_own (h.out.row (by simp)))).mono fun e w' ⟨k1, k2⟩ => ⟨k1, by
          have h1 := (h.out.below k2).drop
          have h2 := (h1.perm (List.Perm.swap _ _ _)).drop
          exact h2.perm (List.Perm.swap _ _ _)⟩
      have C5 : Hid (∀ w3, Hid (Has w.heap.size w [PoolR b (1 + (R : Int)) L, PoolR q (1 + (R : Int)) L, PoolR c (1 + (R : Int)) []] w3) → Calls Try.prog 9 #[.pointer (some ⟨b, 0, none⟩)] w3 fun e w' => e = .returned (.int .i64 (L.length : Int)) ∧ w' = w3) := fun w3 h => h.out.len (room := 1 + (R : Int)) (l := L) (by simp)
      have C6 : Hid (∀ w3, Hid (Has w.heap.size w [PoolR b (1 + (R : Int)) L, PoolR q (1 + (R : Int)) L, PoolR c (1 + (R : Int)) []] w3) → Calls Try.prog 16 #[.pointer (some ⟨q, 0, none⟩)] w3 fun e w' => e = .returned (.int .i64 (L.length : Int)) ∧ w' = w3) := fun w3 h => h.out.refLen (room := 1 + (R : Int)) (l := L) (by simp)
      clear HS2
      go_wp2_with fail
      refine CA.out.mono ?_
      rintro e w3 ⟨la, lc, rfl, HS3⟩
      clear CA
      go_wp2_with fail
      refine (CR.out _ _ _ HS3).mono ?_
      rintro e w5 ⟨ra, rc, rfl, HS5⟩
      clear CR HS3
      go_wp2_with fail
      refine (CS.out _ _ _ _ _ HS5).mono ?_
      rintro e w6 ⟨rfl, HS6⟩
      clear CS HS5
      go_wp2_with fail
      refine (C5.out _ HS6).mono ?_
      rintro e w7 ⟨rfl, hw⟩
      rw [hw]; clear hw w7 C5
      go_wp2_with fail
      refine (C6.out _ HS6).mono ?_
      rintro e w7 ⟨rfl, hw⟩
      rw [hw]; clear hw w7 C6
      go_wp2
      exact ⟨⟨k + 1, L, by omega, by go_num, hL, HS6⟩, by simp [intOf]; omega⟩
    · obtain rfl : k = os.length := by omega
      have C5 : Hid (Calls Try.prog 9 #[.pointer (some ⟨c, 0, none⟩)] wr fun e w' => e = .returned (.int .i64 0) ∧ w' = wr) := HS.out.len (room := 1 + (R : Int)) (l := []) (by simp)
      clear HO
      go_wp2_with fail
      refine C5.out.mono ?_
      rintro e w7 ⟨rfl, hw⟩
      rw [hw]; clear hw w7 C5
      go_wp2
      go_ret
      exact ⟨rfl, HS.out.bel⟩
end Go.Proofs.Ytlhbkbjpdpofnaa
