/- event.mayBe, at tables of any content. -/
import Derived.Test.YtbgankldnjeohaaTabA
set_option linter.unusedVariables false
set_option linter.unusedSimpArgs false
set_option maxRecDepth 100000
namespace Go.Proofs.Ytbgankldnjeohaa
open Go.RowKit

/-- May the event be? -/
def evMay (t : Tb) (k i s : Int) (xs : List (List UInt8)) : Bool :=
  btw k 1 6 && btw i 1 60 && (if k = 1 then btw s 0 7 && keysX t xs else if k = 6 then decide (s = 0) && decide (xs.length = 0) else btw s 0 7 && decide (xs.length = 0))
theorem evMay_any (t : Tb) (k i s : Int) (v : Value) (xs : List (List UInt8)) (hx : xs.length ≤ 140737488355328) (hxs : ∀ s ∈ xs, s.length ≤ 140737488351232) (w : World) (hT : Hid (TabX t w)) (hlow : Hid (0 < w.heap.size ∧ 1 < w.heap.size)) (hS : SRow w v xs) :
    Calls Try.prog 89 #[.agg #[.int .i64 k, .int .i64 i, .int .i64 s, v]] w fun e w' => e = .returned (.bool (evMay t k i s xs)) ∧ Below w.heap.size w w' := by
  have CK : Hid (∀ w1, Below w.heap.size w w1 → Calls Try.prog 69 #[v] w1 fun e w' => e = .returned (.bool (keysX t xs)) ∧ Below w1.heap.size w1 w') := fun w1 hb =>
    areKeys_any t v xs hx hxs w1 (hT.out.below hb hlow.out) ⟨Nat.lt_of_lt_of_le hlow.out.1 hb.size, Nat.lt_of_lt_of_le hlow.out.2 hb.size⟩ (srow_below hS hb)
  obtain ⟨ao, cap, rfl, hca, hrow⟩ := hS
  clear hrow hxs hT hlow
  cases b0 : btw k 1 6 with
  | false =>
    have HE : Hid (evMay t k i s xs = false) := by show _ = _; unfold evMay; rw [b0]; rfl
    clear CK
    go_enter Try.func89, Try.ntmps89
    go_wp2_with (go_at_call 65; refine (between_any _ _ _ _).mono ?_; rintro e w' ⟨rfl, hw'⟩; rw [hw', b0]; clear hw' w')
    all_goals go_ret
    all_goals exact ⟨retB HE.out.symm, by go_grown⟩
  | true =>
  cases b1 : btw i 1 60 with
  | false =>
    have HE : Hid (evMay t k i s xs = false) := by show _ = _; unfold evMay; rw [b0, b1]; rfl
    clear CK
    go_enter Try.func89, Try.ntmps89
    go_wp2_with (first | (go_at_call 67; refine (isID_any _ _).mono ?_; rintro e w' ⟨rfl, hw'⟩; rw [hw', b1]; clear hw' w') | (go_at_call 65; refine (between_any _ _ _ _).mono ?_; rintro e w' ⟨rfl, hw'⟩; rw [hw', b0]; clear hw' w'))
    all_goals go_ret
    all_goals exact ⟨retB HE.out.symm, by go_grown⟩
  | true =>
  by_cases k1 : k = 1
  · subst k1
    cases b2 : btw s 0 7 with
    | false =>
      have HE : Hid (evMay t 1 i s xs = false) := by show _ = _; unfold evMay; rw [b0, b1, b2]; rfl
      clear CK
      go_enter Try.func89, Try.ntmps89
      go_wp2_with (first | (go_at_call 68; refine (isStep_any _ _).mono ?_; rintro e w' ⟨rfl, hw'⟩; rw [hw', b2]; clear hw' w') | (go_at_call 67; refine (isID_any _ _).mono ?_; rintro e w' ⟨rfl, hw'⟩; rw [hw', b1]; clear hw' w') | (go_at_call 65; refine (between_any _ _ _ _).mono ?_; rintro e w' ⟨rfl, hw'⟩; rw [hw', b0]; clear hw' w'))
      all_goals go_ret
      all_goals exact ⟨retB HE.out.symm, by go_grown⟩
    | true =>
      have HE : Hid (evMay t 1 i s xs = keysX t xs) := by show _ = _; unfold evMay; rw [b0, b1, b2]; rfl
      generalize keysX t xs = q at *
      go_enter Try.func89, Try.ntmps89
      go_wp2_with (first | (go_at_call 68; refine (isStep_any _ _).mono ?_; rintro e w' ⟨rfl, hw'⟩; rw [hw', b2]; clear hw' w') | (go_at_call 67; refine (isID_any _ _).mono ?_; rintro e w' ⟨rfl, hw'⟩; rw [hw', b1]; clear hw' w') | (go_at_call 65; refine (between_any _ _ _ _).mono ?_; rintro e w' ⟨rfl, hw'⟩; rw [hw', b0]; clear hw' w'))
      refine (CK.out _ (by go_grown)).mono ?_
      rintro e w2 ⟨rfl, hb2⟩
      have HB : Hid (Below w.heap.size w w2) := (show Below w.heap.size w _ by go_grown).trans (hb2.mono (by simp))
      clear hb2 CK
      go_wp2_with fail
      all_goals go_ret
      all_goals exact ⟨retB HE.out.symm, HB.out⟩
  · by_cases k6 : k = 6
    · subst k6
      have HE : Hid (evMay t 6 i s xs = (decide (s = 0) && decide (xs.length = 0))) := by show _ = _; unfold evMay; rw [b0, b1]; rfl
      clear CK
      by_cases s0 : s = 0
      · subst s0
        have HE2 : Hid (evMay t 6 i 0 xs = decide (xs.length = 0)) := by show _ = _; rw [HE.out]; simp
        clear HE
        by_cases n0 : xs.length = 0
        · rw [n0] at hca ⊢
          have HE3 : Hid (evMay t 6 i 0 xs = true) := by show _ = _; rw [HE2.out]; simp [n0]
          clear HE2
          go_enter Try.func89, Try.ntmps89
          go_wp2_with (first | (go_at_call 67; refine (isID_any _ _).mono ?_; rintro e w' ⟨rfl, hw'⟩; rw [hw', b1]; clear hw' w') | (go_at_call 65; refine (between_any _ _ _ _).mono ?_; rintro e w' ⟨rfl, hw'⟩; rw [hw', b0]; clear hw' w'))
          all_goals go_ret
          all_goals exact ⟨retB HE3.out.symm, by go_grown⟩
        · have n0' : ((xs.length : Int) == 0) = false := beq_eq_false_iff_ne.2 (by omega)
          have HE3 : Hid (evMay t 6 i 0 xs = false) := by show _ = _; rw [HE2.out]; simp [n0]
          clear HE2
          go_enter Try.func89, Try.ntmps89
          go_wp2_with (first | (go_at_call 67; refine (isID_any _ _).mono ?_; rintro e w' ⟨rfl, hw'⟩; rw [hw', b1]; clear hw' w') | (go_at_call 65; refine (between_any _ _ _ _).mono ?_; rintro e w' ⟨rfl, hw'⟩; rw [hw', b0]; clear hw' w'))
          all_goals go_ret
          all_goals exact ⟨retB HE3.out.symm, by go_grown⟩
      · have s0' : (s == 0) = false := beq_eq_false_iff_ne.2 s0
        have HE3 : Hid (evMay t 6 i s xs = false) := by show _ = _; rw [HE.out]; simp [s0]
        clear HE
        go_enter Try.func89, Try.ntmps89
        go_wp2_with (first | (go_at_call 67; refine (isID_any _ _).mono ?_; rintro e w' ⟨rfl, hw'⟩; rw [hw', b1]; clear hw' w') | (go_at_call 65; refine (between_any _ _ _ _).mono ?_; rintro e w' ⟨rfl, hw'⟩; rw [hw', b0]; clear hw' w'))
        all_goals go_ret
        all_goals exact ⟨retB HE3.out.symm, by go_grown⟩
    · have k1' : (k == 1) = false := beq_eq_false_iff_ne.2 k1
      have k6' : (k == 6) = false := beq_eq_false_iff_ne.2 k6
      have HE : Hid (evMay t k i s xs = (btw s 0 7 && decide (xs.length = 0))) := by show _ = _; unfold evMay; rw [b0, b1, if_neg k1, if_neg k6]; rfl
      clear CK
      cases b2 : btw s 0 7 with
      | false =>
        have HE3 : Hid (evMay t k i s xs = false) := by show _ = _; rw [HE.out, b2]; rfl
        clear HE
        go_enter Try.func89, Try.ntmps89
        go_wp2_with (first | (go_at_call 68; refine (isStep_any _ _).mono ?_; rintro e w' ⟨rfl, hw'⟩; rw [hw', b2]; clear hw' w') | (go_at_call 67; refine (isID_any _ _).mono ?_; rintro e w' ⟨rfl, hw'⟩; rw [hw', b1]; clear hw' w') | (go_at_call 65; refine (between_any _ _ _ _).mono ?_; rintro e w' ⟨rfl, hw'⟩; rw [hw', b0]; clear hw' w'))
        all_goals go_ret
        all_goals exact ⟨retB HE3.out.symm, by go_grown⟩
      | true =>
        by_cases n0 : xs.length = 0
        · rw [n0] at hca ⊢
          have HE3 : Hid (evMay t k i s xs = true) := by show _ = _; rw [HE.out, b2]; simp [n0]
          clear HE
          go_enter Try.func89, Try.ntmps89
          go_wp2_with (first | (go_at_call 68; refine (isStep_any _ _).mono ?_; rintro e w' ⟨rfl, hw'⟩; rw [hw', b2]; clear hw' w') | (go_at_call 67; refine (isID_any _ _).mono ?_; rintro e w' ⟨rfl, hw'⟩; rw [hw', b1]; clear hw' w') | (go_at_call 65; refine (between_any _ _ _ _).mono ?_; rintro e w' ⟨rfl, hw'⟩; rw [hw', b0]; clear hw' w'))
          all_goals go_ret
          all_goals exact ⟨retB HE3.out.symm, by go_grown⟩
        · have n0' : ((xs.length : Int) == 0) = false := beq_eq_false_iff_ne.2 (by omega)
          have HE3 : Hid (evMay t k i s xs = false) := by show _ = _; rw [HE.out, b2]; simp [n0]
          clear HE
          go_enter Try.func89, Try.ntmps89
          go_wp2_with (first | (go_at_call 68; refine (isStep_any _ _).mono ?_; rintro e w' ⟨rfl, hw'⟩; rw [hw', b2]; clear hw' w') | (go_at_call 67; refine (isID_any _ _).mono ?_; rintro e w' ⟨rfl, hw'⟩; rw [hw', b1]; clear hw' w') | (go_at_call 65; refine (between_any _ _ _ _).mono ?_; rintro e w' ⟨rfl, hw'⟩; rw [hw', b0]; clear hw' w'))
          all_goals go_ret
          all_goals exact ⟨retB HE3.out.symm, by go_grown⟩
end Go.Proofs.Ytbgankldnjeohaa
