/- letter.mayBe, at tables of any content. -/
import Derived.Test.YteicfkgcbpioiaaZzE
set_option linter.unusedVariables false
set_option linter.unusedSimpArgs false
set_option maxRecDepth 100000
namespace Go.Proofs.Yteicfkgcbpioiaa
open Go.RowKit

/-- May the letter be? -/
def ltMay (t : Tb) (k p i s o : Int) (xs : List (List UInt8)) : Bool :=
  btw k 1 9 && btw p 0 3 && btw i 1 60 && (if k = 1 then btw s 0 7 && btw o 1 3 && keysX t xs else if k = 3 ∨ k = 9 then decide (s = 0) && decide (o = 0) && decide (xs.length = 0) else btw s 0 7 && decide (o = 0) && decide (xs.length = 0))
set_option maxHeartbeats 2000000 in
theorem ltMay_any (t : Tb) (k p i s o : Int) (v : Value) (xs : List (List UInt8)) (hx : xs.length ≤ 140737488355328) (hxs : ∀ s ∈ xs, s.length ≤ 140737488351232) (w : World) (hT : Hid (TabX t w)) (hlow : Hid (1 < w.heap.size ∧ 2 < w.heap.size)) (hS : SRow w v xs) :
    Calls Try.prog 85 #[.agg #[.int .i64 k, .int .i64 p, .int .i64 i, .int .i64 s, .int .i64 o, v]] w fun e w' => e = .returned (.bool (ltMay t k p i s o xs)) ∧ Below w.heap.size w w' := by
  have CK : Hid (∀ w1, Below w.heap.size w w1 → Calls Try.prog 87 #[v] w1 fun e w' => e = .returned (.bool (keysX t xs)) ∧ Below w1.heap.size w1 w') := fun w1 hb =>
    areKeys_any t v xs hx hxs w1 (hT.out.below hb hlow.out) ⟨Nat.lt_of_lt_of_le hlow.out.1 hb.size, Nat.lt_of_lt_of_le hlow.out.2 hb.size⟩ (srow_below hS hb)
  obtain ⟨ao, cap, rfl, hca, hrow⟩ := hS
  clear hrow hxs hT hlow
  cases b0 : btw k 1 9 with
  | false =>
    have HE : Hid (ltMay t k p i s o xs = false) := by show _ = _; unfold ltMay; rw [b0]; rfl
    clear CK
    go_enter Try.func85, Try.ntmps85
    go_wp2_with (first | (go_at_call 65; refine (between_any _ _ _ _).mono ?_; rintro e w' ⟨rfl, hw'⟩; first | (rw [hw', b0]; clear hw' w')))
    all_goals go_ret
    all_goals exact ⟨retB HE.out.symm, by go_grown⟩
  | true =>
  cases bp : btw p 0 3 with
  | false =>
    have HE : Hid (ltMay t k p i s o xs = false) := by show _ = _; unfold ltMay; rw [b0, bp]; rfl
    clear CK
    go_enter Try.func85, Try.ntmps85
    go_wp2_with (first | (go_at_call 68; refine (isPart_any _ _).mono ?_; rintro e w' ⟨rfl, hw'⟩; rw [hw', bp]; clear hw' w') | (go_at_call 65; refine (between_any _ _ _ _).mono ?_; rintro e w' ⟨rfl, hw'⟩; first | (rw [hw', b0]; clear hw' w')))
    all_goals go_ret
    all_goals exact ⟨retB HE.out.symm, by go_grown⟩
  | true =>
  cases bi : btw i 1 60 with
  | false =>
    have HE : Hid (ltMay t k p i s o xs = false) := by show _ = _; unfold ltMay; rw [b0, bp, bi]; rfl
    clear CK
    go_enter Try.func85, Try.ntmps85
    go_wp2_with (first | (go_at_call 64; refine (isID_any _ _).mono ?_; rintro e w' ⟨rfl, hw'⟩; rw [hw', bi]; clear hw' w') | (go_at_call 68; refine (isPart_any _ _).mono ?_; rintro e w' ⟨rfl, hw'⟩; rw [hw', bp]; clear hw' w') | (go_at_call 65; refine (between_any _ _ _ _).mono ?_; rintro e w' ⟨rfl, hw'⟩; first | (rw [hw', b0]; clear hw' w')))
    all_goals go_ret
    all_goals exact ⟨retB HE.out.symm, by go_grown⟩
  | true =>
  by_cases k1 : k = 1
  · subst k1
    cases bs : btw s 0 7 with
    | false =>
      have HE : Hid (ltMay t 1 p i s o xs = false) := by show _ = _; unfold ltMay; rw [b0, bp, bi, bs]; rfl
      clear CK
      go_enter Try.func85, Try.ntmps85
      go_wp2_with (first | (go_at_call 67; refine (isStep_any _ _).mono ?_; rintro e w' ⟨rfl, hw'⟩; rw [hw', bs]; clear hw' w') | (go_at_call 64; refine (isID_any _ _).mono ?_; rintro e w' ⟨rfl, hw'⟩; rw [hw', bi]; clear hw' w') | (go_at_call 68; refine (isPart_any _ _).mono ?_; rintro e w' ⟨rfl, hw'⟩; rw [hw', bp]; clear hw' w') | (go_at_call 65; refine (between_any _ _ _ _).mono ?_; rintro e w' ⟨rfl, hw'⟩; first | (rw [hw', b0]; clear hw' w')))
      all_goals go_ret
      all_goals exact ⟨retB HE.out.symm, by go_grown⟩
    | true =>
    cases bo : btw o 1 3 with
    | false =>
      have HE : Hid (ltMay t 1 p i s o xs = false) := by show _ = _; unfold ltMay; rw [b0, bp, bi, bs, bo]; rfl
      clear CK
      go_enter Try.func85, Try.ntmps85
      go_wp2_with (first | (go_at_call 67; refine (isStep_any _ _).mono ?_; rintro e w' ⟨rfl, hw'⟩; rw [hw', bs]; clear hw' w') | (go_at_call 64; refine (isID_any _ _).mono ?_; rintro e w' ⟨rfl, hw'⟩; rw [hw', bi]; clear hw' w') | (go_at_call 68; refine (isPart_any _ _).mono ?_; rintro e w' ⟨rfl, hw'⟩; rw [hw', bp]; clear hw' w') | (go_at_call 65; refine (between_any _ _ _ _).mono ?_; rintro e w' ⟨rfl, hw'⟩; first | (rw [hw', b0]; clear hw' w') | (rw [hw', bo]; clear hw' w')))
      all_goals go_ret
      all_goals exact ⟨retB HE.out.symm, by go_grown⟩
    | true =>
      have HE : Hid (ltMay t 1 p i s o xs = keysX t xs) := by show _ = _; unfold ltMay; rw [b0, bp, bi, bs, bo]; rfl
      generalize keysX t xs = q at *
      go_enter Try.func85, Try.ntmps85
      go_wp2_with (first | (go_at_call 67; refine (isStep_any _ _).mono ?_; rintro e w' ⟨rfl, hw'⟩; rw [hw', bs]; clear hw' w') | (go_at_call 64; refine (isID_any _ _).mono ?_; rintro e w' ⟨rfl, hw'⟩; rw [hw', bi]; clear hw' w') | (go_at_call 68; refine (isPart_any _ _).mono ?_; rintro e w' ⟨rfl, hw'⟩; rw [hw', bp]; clear hw' w') | (go_at_call 65; refine (between_any _ _ _ _).mono ?_; rintro e w' ⟨rfl, hw'⟩; first | (rw [hw', b0]; clear hw' w') | (rw [hw', bo]; clear hw' w')))
      refine (CK.out _ (by go_grown)).mono ?_
      rintro e w2 ⟨rfl, hb2⟩
      have HB : Hid (Below w.heap.size w w2) := (show Below w.heap.size w _ by go_grown).trans (hb2.mono (by simp))
      clear hb2 CK
      go_wp2_with fail
      all_goals go_ret
      all_goals exact ⟨retB HE.out.symm, HB.out⟩
  · by_cases k3 : k = 3
    · subst k3
      by_cases s0 : s = 0
      · subst s0
        by_cases o0 : o = 0
        · subst o0
          by_cases n0 : xs.length = 0
          · rw [n0] at hca ⊢
            have HE : Hid (ltMay t 3 p i 0 0 xs = true) := by show _ = _; unfold ltMay; rw [b0, bp, bi]; simp [n0]
            clear CK
            go_enter Try.func85, Try.ntmps85
            go_wp2_with (first | (go_at_call 64; refine (isID_any _ _).mono ?_; rintro e w' ⟨rfl, hw'⟩; rw [hw', bi]; clear hw' w') | (go_at_call 68; refine (isPart_any _ _).mono ?_; rintro e w' ⟨rfl, hw'⟩; rw [hw', bp]; clear hw' w') | (go_at_call 65; refine (between_any _ _ _ _).mono ?_; rintro e w' ⟨rfl, hw'⟩; first | (rw [hw', b0]; clear hw' w')))
            all_goals go_ret
            all_goals exact ⟨retB HE.out.symm, by go_grown⟩
          · have n0' : ((xs.length : Int) == 0) = false := beq_eq_false_iff_ne.2 (by omega)
            have HE : Hid (ltMay t 3 p i 0 0 xs = false) := by show _ = _; unfold ltMay; rw [b0, bp, bi]; simp [n0]
            clear CK
            go_enter Try.func85, Try.ntmps85
            go_wp2_with (first | (go_at_call 64; refine (isID_any _ _).mono ?_; rintro e w' ⟨rfl, hw'⟩; rw [hw', bi]; clear hw' w') | (go_at_call 68; refine (isPart_any _ _).mono ?_; rintro e w' ⟨rfl, hw'⟩; rw [hw', bp]; clear hw' w') | (go_at_call 65; refine (between_any _ _ _ _).mono ?_; rintro e w' ⟨rfl, hw'⟩; first | (rw [hw', b0]; clear hw' w')))
            all_goals go_ret
            all_goals exact ⟨retB HE.out.symm, by go_grown⟩
        · have o0' : (o == 0) = false := beq_eq_false_iff_ne.2 o0
          have HE : Hid (ltMay t 3 p i 0 o xs = false) := by show _ = _; unfold ltMay; rw [b0, bp, bi]; simp [o0]
          clear CK
          go_enter Try.func85, Try.ntmps85
          go_wp2_with (first | (go_at_call 64; refine (isID_any _ _).mono ?_; rintro e w' ⟨rfl, hw'⟩; rw [hw', bi]; clear hw' w') | (go_at_call 68; refine (isPart_any _ _).mono ?_; rintro e w' ⟨rfl, hw'⟩; rw [hw', bp]; clear hw' w') | (go_at_call 65; refine (between_any _ _ _ _).mono ?_; rintro e w' ⟨rfl, hw'⟩; first | (rw [hw', b0]; clear hw' w')))
          all_goals go_ret
          all_goals exact ⟨retB HE.out.symm, by go_grown⟩
      · have s0' : (s == 0) = false := beq_eq_false_iff_ne.2 s0
        have HE : Hid (ltMay t 3 p i s o xs = false) := by show _ = _; unfold ltMay; rw [b0, bp, bi]; simp [s0]
        clear CK
        go_enter Try.func85, Try.ntmps85
        go_wp2_with (first | (go_at_call 64; refine (isID_any _ _).mono ?_; rintro e w' ⟨rfl, hw'⟩; rw [hw', bi]; clear hw' w') | (go_at_call 68; refine (isPart_any _ _).mono ?_; rintro e w' ⟨rfl, hw'⟩; rw [hw', bp]; clear hw' w') | (go_at_call 65; refine (between_any _ _ _ _).mono ?_; rintro e w' ⟨rfl, hw'⟩; first | (rw [hw', b0]; clear hw' w')))
        all_goals go_ret
        all_goals exact ⟨retB HE.out.symm, by go_grown⟩
    by_cases k9 : k = 9
    · subst k9
      by_cases s0 : s = 0
      · subst s0
        by_cases o0 : o = 0
        · subst o0
          by_cases n0 : xs.length = 0
          · rw [n0] at hca ⊢
            have HE : Hid (ltMay t 9 p i 0 0 xs = true) := by show _ = _; unfold ltMay; rw [b0, bp, bi]; simp [n0]
            clear CK
            go_enter Try.func85, Try.ntmps85
            go_wp2_with (first | (go_at_call 64; refine (isID_any _ _).mono ?_; rintro e w' ⟨rfl, hw'⟩; rw [hw', bi]; clear hw' w') | (go_at_call 68; refine (isPart_any _ _).mono ?_; rintro e w' ⟨rfl, hw'⟩; rw [hw', bp]; clear hw' w') | (go_at_call 65; refine (between_any _ _ _ _).mono ?_; rintro e w' ⟨rfl, hw'⟩; first | (rw [hw', b0]; clear hw' w')))
            all_goals go_ret
            all_goals exact ⟨retB HE.out.symm, by go_grown⟩
          · have n0' : ((xs.length : Int) == 0) = false := beq_eq_false_iff_ne.2 (by omega)
            have HE : Hid (ltMay t 9 p i 0 0 xs = false) := by show _ = _; unfold ltMay; rw [b0, bp, bi]; simp [n0]
            clear CK
            go_enter Try.func85, Try.ntmps85
            go_wp2_with (first | (go_at_call 64; refine (isID_any _ _).mono ?_; rintro e w' ⟨rfl, hw'⟩; rw [hw', bi]; clear hw' w') | (go_at_call 68; refine (isPart_any _ _).mono ?_; rintro e w' ⟨rfl, hw'⟩; rw [hw', bp]; clear hw' w') | (go_at_call 65; refine (between_any _ _ _ _).mono ?_; rintro e w' ⟨rfl, hw'⟩; first | (rw [hw', b0]; clear hw' w')))
            all_goals go_ret
            all_goals exact ⟨retB HE.out.symm, by go_grown⟩
        · have o0' : (o == 0) = false := beq_eq_false_iff_ne.2 o0
          have HE : Hid (ltMay t 9 p i 0 o xs = false) := by show _ = _; unfold ltMay; rw [b0, bp, bi]; simp [o0]
          clear CK
          go_enter Try.func85, Try.ntmps85
          go_wp2_with (first | (go_at_call 64; refine (isID_any _ _).mono ?_; rintro e w' ⟨rfl, hw'⟩; rw [hw', bi]; clear hw' w') | (go_at_call 68; refine (isPart_any _ _).mono ?_; rintro e w' ⟨rfl, hw'⟩; rw [hw', bp]; clear hw' w') | (go_at_call 65; refine (between_any _ _ _ _).mono ?_; rintro e w' ⟨rfl, hw'⟩; first | (rw [hw', b0]; clear hw' w')))
          all_goals go_ret
          all_goals exact ⟨retB HE.out.symm, by go_grown⟩
      · have s0' : (s == 0) = false := beq_eq_false_iff_ne.2 s0
        have HE : Hid (ltMay t 9 p i s o xs = false) := by show _ = _; unfold ltMay; rw [b0, bp, bi]; simp [s0]
        clear CK
        go_enter Try.func85, Try.ntmps85
        go_wp2_with (first | (go_at_call 64; refine (isID_any _ _).mono ?_; rintro e w' ⟨rfl, hw'⟩; rw [hw', bi]; clear hw' w') | (go_at_call 68; refine (isPart_any _ _).mono ?_; rintro e w' ⟨rfl, hw'⟩; rw [hw', bp]; clear hw' w') | (go_at_call 65; refine (between_any _ _ _ _).mono ?_; rintro e w' ⟨rfl, hw'⟩; first | (rw [hw', b0]; clear hw' w')))
        all_goals go_ret
        all_goals exact ⟨retB HE.out.symm, by go_grown⟩
    have k1' : (k == 1) = false := beq_eq_false_iff_ne.2 k1
    have k3' : (k == 3) = false := beq_eq_false_iff_ne.2 k3
    have k9' : (k == 9) = false := beq_eq_false_iff_ne.2 k9
    cases bs : btw s 0 7 with
    | false =>
      have HE : Hid (ltMay t k p i s o xs = false) := by show _ = _; unfold ltMay; rw [b0, bp, bi, bs, if_neg k1, if_neg (by omega)]; rfl
      clear CK
      go_enter Try.func85, Try.ntmps85
      go_wp2_with (first | (go_at_call 67; refine (isStep_any _ _).mono ?_; rintro e w' ⟨rfl, hw'⟩; rw [hw', bs]; clear hw' w') | (go_at_call 64; refine (isID_any _ _).mono ?_; rintro e w' ⟨rfl, hw'⟩; rw [hw', bi]; clear hw' w') | (go_at_call 68; refine (isPart_any _ _).mono ?_; rintro e w' ⟨rfl, hw'⟩; rw [hw', bp]; clear hw' w') | (go_at_call 65; refine (between_any _ _ _ _).mono ?_; rintro e w' ⟨rfl, hw'⟩; first | (rw [hw', b0]; clear hw' w')))
      all_goals go_ret
      all_goals exact ⟨retB HE.out.symm, by go_grown⟩
    | true =>
      by_cases o0 : o = 0
      · subst o0
        by_cases n0 : xs.length = 0
        · rw [n0] at hca ⊢
          have HE : Hid (ltMay t k p i s 0 xs = true) := by show _ = _; unfold ltMay; rw [b0, bp, bi]; simp [bs, k1, k3, k9, n0]
          clear CK
          go_enter Try.func85, Try.ntmps85
          go_wp2_with (first | (go_at_call 67; refine (isStep_any _ _).mono ?_; rintro e w' ⟨rfl, hw'⟩; rw [hw', bs]; clear hw' w') | (go_at_call 64; refine (isID_any _ _).mono ?_; rintro e w' ⟨rfl, hw'⟩; rw [hw', bi]; clear hw' w') | (go_at_call 68; refine (isPart_any _ _).mono ?_; rintro e w' ⟨rfl, hw'⟩; rw [hw', bp]; clear hw' w') | (go_at_call 65; refine (between_any _ _ _ _).mono ?_; rintro e w' ⟨rfl, hw'⟩; first | (rw [hw', b0]; clear hw' w')))
          all_goals go_ret
          all_goals exact ⟨retB HE.out.symm, by go_grown⟩
        · have n0' : ((xs.length : Int) == 0) = false := beq_eq_false_iff_ne.2 (by omega)
          have HE : Hid (ltMay t k p i s 0 xs = false) := by show _ = _; unfold ltMay; rw [b0, bp, bi]; simp [bs, k1, k3, k9, n0]
          clear CK
          go_enter Try.func85, Try.ntmps85
          go_wp2_with (first | (go_at_call 67; refine (isStep_any _ _).mono ?_; rintro e w' ⟨rfl, hw'⟩; rw [hw', bs]; clear hw' w') | (go_at_call 64; refine (isID_any _ _).mono ?_; rintro e w' ⟨rfl, hw'⟩; rw [hw', bi]; clear hw' w') | (go_at_call 68; refine (isPart_any _ _).mono ?_; rintro e w' ⟨rfl, hw'⟩; rw [hw', bp]; clear hw' w') | (go_at_call 65; refine (between_any _ _ _ _).mono ?_; rintro e w' ⟨rfl, hw'⟩; first | (rw [hw', b0]; clear hw' w')))
          all_goals go_ret
          all_goals exact ⟨retB HE.out.symm, by go_grown⟩
      · have o0' : (o == 0) = false := beq_eq_false_iff_ne.2 o0
        have HE : Hid (ltMay t k p i s o xs = false) := by show _ = _; unfold ltMay; rw [b0, bp, bi]; simp [bs, k1, k3, k9, o0]
        clear CK
        go_enter Try.func85, Try.ntmps85
        go_wp2_with (first | (go_at_call 67; refine (isStep_any _ _).mono ?_; rintro e w' ⟨rfl, hw'⟩; rw [hw', bs]; clear hw' w') | (go_at_call 64; refine (isID_any _ _).mono ?_; rintro e w' ⟨rfl, hw'⟩; rw [hw', bi]; clear hw' w') | (go_at_call 68; refine (isPart_any _ _).mono ?_; rintro e w' ⟨rfl, hw'⟩; rw [hw', bp]; clear hw' w') | (go_at_call 65; refine (between_any _ _ _ _).mono ?_; rintro e w' ⟨rfl, hw'⟩; first | (rw [hw', b0]; clear hw' w')))
        all_goals go_ret
        all_goals exact ⟨retB HE.out.symm, by go_grown⟩
end Go.Proofs.Yteicfkgcbpioiaa
